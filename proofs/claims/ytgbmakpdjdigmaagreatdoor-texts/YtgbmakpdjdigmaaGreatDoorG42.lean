/- EqD EqE EqF: told at each. -/
import Derived.Test.YtgbmakpdjdigmaaGreatDoorG11
import Derived.Test.YtgbmakpdjdigmaaGreatDoorG24
import Derived.Test.YtgbmakpdjdigmaaGreatDoorG01
import Derived.Test.YtgbmakpdjdigmaaGreatDoorG41

/- Plain mathematics: the program's parser and the document's reader, over the same tokens, go alike: take and eat, names and list, value and statements without blocks. No condition. -/
namespace Go.Proofs.YtgbmakpdjdigmaaGreatDoor

theorem toTk_no : toTk ptNo = tkNo := rfl
theorem tokAt_map (l : List PT) (i : Nat) : tokAt (l.map toTk) i = toTk (ptAt l i) := by
  unfold tokAt ptAt
  rw [List.getElem?_map]
  cases l[i]? <;> rfl
theorem ptAt_inm {l : List PT} {i : Nat} (h : i < l.length) : ptAt l i ∈ l := by
  unfold ptAt
  rw [List.getElem?_eq_getElem h]
  exact List.getElem_mem h
theorem TksOk.end_ {N : Nat} {l : List PT} (h : TksOk N l) : (ptAt l (l.length - 1)).kind = 0 := by
  obtain ⟨t, h1, h2, _⟩ := h.last
  unfold ptAt
  rw [h1]; exact h2
theorem sortK_one (k : Nat) : sortK k = 1 ↔ k = 1 := by
  unfold sortK; repeat' split
  all_goals omega
theorem sortK_three (k : Nat) : sortK k = 3 ↔ k = 2 := by
  unfold sortK; repeat' split
  all_goals omega
theorem sortK_zero (k : Nat) : sortK k = 0 ↔ k = 0 := by
  unfold sortK; repeat' split
  all_goals omega
theorem sortK_word (k : Nat) : (sortK k = 2 ∨ sortK k = 4) ↔ 3 ≤ k := by
  unfold sortK; repeat' split
  all_goals omega
theorem litK_some : ∀ k, 3 ≤ k → k ≤ 20 → litK k ≠ [] := by
  intro k h1 h2
  have : ∀ k : Fin 21, 3 ≤ k.val → litK k ≠ [] := by decide +kernel
  exact this ⟨k, by omega⟩ h1
theorem isTk_iff {t : PT} (h : LitT t) {k : Nat} (h3 : 3 ≤ k) (h20 : k ≤ 20) : isTk (toTk t) (litK k) = true ↔ t.kind = k := by
  unfold isTk toTk
  simp only [Bool.and_eq_true, beq_iff_eq, Bool.or_eq_true]
  rw [sortK_word]
  constructor
  · rintro ⟨e, g⟩
    exact litK_inj _ h.1 g _ h20 h3 ((h.2 g).symm.trans e)
  · intro e
    exact ⟨by rw [← e]; exact h.2 (by omega), by omega⟩
theorem wordOf_iff {t : PT} (h : LitT t) {k : Nat} (h3 : 3 ≤ k) (h20 : k ≤ 20) : wordOf (toTk t) = litK k ↔ t.kind = k := by
  unfold wordOf toTk
  simp only [sortK_word]
  split
  · rename_i g
    exact ⟨fun e => litK_inj _ h.1 g _ h20 h3 ((h.2 g).symm.trans e), fun e => by rw [← e]; exact h.2 g⟩
  · rename_i g
    exact ⟨fun e => absurd e.symm (litK_some k h3 h20), fun e => by omega⟩

/-- Both stand at the same token, without a fault. -/
def PGood (n : Nat) (x : PS) (y : St) : Prop := x.failed = false ∧ y.bad = none ∧ y.cur = x.next ∧ x.next < n
def PBad (n : Nat) (x : PS) (p : Nat) : Prop := x.failed = true ∧ x.wrong = p ∧ x.next = n - 1
/-- So, or both have found the same fault. -/
def Al (n : Nat) (x : PS) (y : St) : Prop := PGood n x y ∨ ∃ p, PBad n x p ∧ y.bad = some p

section
variable {N : Nat} {toks : List PT} (H : TksOk N toks)
include H
theorem pbad_take {k : Nat} (hk : k ≠ 0) {x : PS} {p : Nat} (h : PBad toks.length x p) : PBad toks.length (takeP toks toks.length k x) p := by
  obtain ⟨h1, h2, h3⟩ := h
  have h0 := H.end_
  unfold takeP
  rw [h3, h0, if_neg (fun e => hk e.symm)]
  exact ⟨rfl, by simp [failP, h1, h2], rfl⟩
theorem pbad_nms {x : PS} {p : Nat} (h : PBad toks.length x p) (f : Nat) (acc : List PT) : nmsR toks f x acc = (acc, x) :=
  nmsR_stop (by rw [h.2.2, H.end_]; decide)
theorem pbad_names {x : PS} {p : Nat} (h : PBad toks.length x p) : PBad toks.length (namesP toks toks.length x).2 p := by
  unfold namesP
  have h1 := pbad_take H (k := 10) (by decide) h
  simp only [pbad_nms H h1]
  exact pbad_take H (by decide) h1
theorem pbad_val {x : PS} {p : Nat} (h : PBad toks.length x p) : PBad toks.length (valP toks toks.length x).2 p := by
  have T := fun (k : Nat) (hk : k ≠ 0) {x : PS} (h : PBad toks.length x p) => pbad_take H hk h
  unfold valP
  split
  · exact T 5 (by decide) h
  · split
    · unfold addrP
      simp only
      split
      · exact T 2 (by decide) (T 19 (by decide) (T 1 (by decide) (T 16 (by decide) h)))
      · exact T 1 (by decide) (T 16 (by decide) h)
    · split
      · exact T 1 (by decide) (T 17 (by decide) h)
      · split
        · exact T 1 (by decide) (T 18 (by decide) h)
        · split
          · exact pbad_names H (T 11 (by decide) (T 1 (by decide) (T 17 (by decide) (T 10 (by decide) h))))
          · split
            · exact pbad_names H (T 1 (by decide) h)
            · exact T 1 (by decide) h
omit H in
theorem rbad_eat (T : List Tk) (L : List UInt8) {y : St} {p : Nat} (h : y.bad = some p) : (eatS T L y).bad = some p := by
  unfold eatS eatR
  simp [nextB, h, failO]
omit H in
theorem rbad_get (T : List Tk) (k : Nat) {y : St} {p : Nat} (h : y.bad = some p) : (getS T k y).2.bad = some p := by
  unfold getS getR
  simp [h, failO]
omit H in
theorem rbad_lst (T : List Tk) (f cur : Nat) (p : Nat) (acc : List Tk) : lstR T f cur (some p) acc = (acc, cur, some p) := lstR_stop (by simp)
omit H in
theorem rbad_list (T : List Tk) {y : St} {p : Nat} (h : y.bad = some p) : (listS T y).2.bad = some p := by
  unfold listS listR
  simp only [h, rbad_lst]
  simp [eatR, nextB, failO]
omit H in
theorem rbad_val (T : List Tk) {y : St} {p : Nat} (s : FS) (h : y.bad = some p) : (valS T y s).2.bad = some p := by
  have E := fun (L : List UInt8) {y : St} (h : y.bad = some p) => rbad_eat T L h
  have G := fun (k : Nat) {y : St} (h : y.bad = some p) => rbad_get T k h
  have I := fun {y : St} (h : y.bad = some p) => rbad_list T h
  unfold valS
  split
  · exact E _ h
  · split
    · simp only
      split
      · exact G _ (E _ (G _ (E _ h)))
      · exact G _ (E _ h)
    · split
      · exact G _ (E _ h)
      · split
        · exact G _ (E _ h)
        · split
          · exact I (y := ⟨_, _, _, _⟩) (E _ (E _ (G _ (E _ (E _ h)))))
          · simp only
            split
            · exact I (E _ (G _ h))
            · exact G _ h
theorem al_eat {k : Nat} (h3 : 3 ≤ k) (h20 : k ≤ 20) {x : PS} {y : St} (h : Al toks.length x y) : Al toks.length (takeP toks toks.length k x) (eatS (toks.map toTk) (litK k) y) := by
  rcases h with ⟨h1, h2, h4, h5⟩ | ⟨p, hb, hy⟩
  · have hl := H.lit _ (ptAt_inm h5)
    have hi := isTk_iff hl h3 h20
    have h0 := H.end_
    unfold takeP eatS eatR
    rw [h4, tokAt_map]
    by_cases hk : (ptAt toks x.next).kind = k
    · have hn : nextB y.bad (toTk (ptAt toks x.next)) (litK k) = true := by simp [nextB, h2, hi.2 hk]
      rw [if_pos hk, if_neg (by omega), if_pos hn]
      have hne : x.next ≠ toks.length - 1 := fun e => by rw [e, h0] at hk; omega
      exact .inl ⟨h1, h2, rfl, by simp only; omega⟩
    · have hn : ¬ nextB y.bad (toTk (ptAt toks x.next)) (litK k) = true := by
        simp only [nextB, Bool.and_eq_true, not_and]
        intro _ e
        exact hk (hi.1 e)
      rw [if_neg hk, if_neg hn]
      exact .inr ⟨(ptAt toks x.next).place, ⟨rfl, by simp [failP, h1], rfl⟩, by simp [failO, h2, toTk]⟩
  · exact .inr ⟨p, pbad_take H (by omega) hb, rbad_eat _ _ hy⟩
theorem al_get {k so : Nat} (hks : (k = 1 ∧ so = 1) ∨ (k = 2 ∧ so = 3)) {x : PS} {y : St} (h : Al toks.length x y) : Al toks.length (takeP toks toks.length k x) (getS (toks.map toTk) so y).2 ∧ (getS (toks.map toTk) so y).1 = toTk (takeV toks k x) := by
  rcases h with ⟨h1, h2, h4, h5⟩ | ⟨p, hb, hy⟩
  · have hi : sortK (ptAt toks x.next).kind = so ↔ (ptAt toks x.next).kind = k := by
      rcases hks with ⟨rfl, rfl⟩ | ⟨rfl, rfl⟩
      · exact sortK_one _
      · exact sortK_three _
    have h0 := H.end_
    unfold takeP getS getR takeV
    rw [h4, tokAt_map]
    by_cases hk : (ptAt toks x.next).kind = k
    · have hn : y.bad.isNone = true ∧ (toTk (ptAt toks x.next)).sort = so := ⟨by simp [h2], hi.2 hk⟩
      simp only [if_pos hk, if_pos hn]
      rw [if_neg (by omega)]
      have hne : x.next ≠ toks.length - 1 := fun e => by rw [e, h0] at hk; omega
      exact ⟨.inl ⟨h1, h2, rfl, by simp only; omega⟩, trivial⟩
    · have hn : ¬ (y.bad.isNone = true ∧ (toTk (ptAt toks x.next)).sort = so) := fun e => hk (hi.1 e.2)
      simp only [if_neg hk, if_neg hn]
      exact ⟨.inr ⟨(ptAt toks x.next).place, ⟨rfl, by simp [failP, h1], rfl⟩, by simp [failO, h2, toTk]⟩, rfl⟩
  · refine ⟨.inr ⟨p, pbad_take H (by omega) hb, rbad_get _ _ hy⟩, ?_⟩
    unfold getS getR takeV
    rw [if_neg (by simp [hy]), if_neg (by rw [hb.2.2, H.end_]; omega)]
    rfl
theorem al_next {k : Nat} (h3 : 3 ≤ k) (h20 : k ≤ 20) {x : PS} {y : St} (h : Al toks.length x y) : nextB y.bad (tokAt (toks.map toTk) y.cur) (litK k) = true ↔ (ptAt toks x.next).kind = k := by
  rcases h with ⟨h1, h2, h4, h5⟩ | ⟨p, hb, hy⟩
  · rw [h4, tokAt_map, ← isTk_iff (H.lit _ (ptAt_inm h5)) h3 h20]
    simp [nextB, h2]
  · rw [hb.2.2, H.end_]
    simp [nextB, hy]
    omega
theorem good_word {k : Nat} (h3 : 3 ≤ k) (h20 : k ≤ 20) {x : PS} {y : St} (h : PGood toks.length x y) : wordOf (tokAt (toks.map toTk) y.cur) = litK k ↔ (ptAt toks x.next).kind = k := by
  obtain ⟨h1, h2, h4, h5⟩ := h
  rw [h4, tokAt_map]
  exact wordOf_iff (H.lit _ (ptAt_inm h5)) h3 h20
theorem good_nms : ∀ (m f g : Nat) (x : PS) (acc : List PT), toks.length - 1 - x.next ≤ m → toks.length - 1 - x.next ≤ f → toks.length - 1 - x.next ≤ g → x.next < toks.length →
    lstR (toks.map toTk) g x.next none (acc.map toTk) = ((nmsR toks f x acc).1.map toTk, (nmsR toks f x acc).2.next, none) ∧ (nmsR toks f x acc).2.failed = x.failed ∧ (nmsR toks f x acc).2.wrong = x.wrong ∧ (nmsR toks f x acc).2.next < toks.length := by
  intro m
  induction m with
  | zero =>
    intro f g x acc hm hf hg hx
    have e : x.next = toks.length - 1 := by omega
    have h0 := H.end_
    rw [← e] at h0
    rw [nmsR_stop (by rw [h0]; decide), lstR_stop (by rw [tokAt_map]; simp [toTk, h0, sortK])]
    exact ⟨rfl, rfl, rfl, hx⟩
  | succ m ih =>
    intro f g x acc hm hf hg hx
    by_cases hk : (ptAt toks x.next).kind = 1
    · obtain ⟨a1, f', a2, a3⟩ := nmsR_go (acc := acc) hf hx H.end_ hk
      have hz : (tokAt (toks.map toTk) ((toks.length) - 1)).sort = 0 := by rw [tokAt_map]; simp [toTk, H.end_, sortK]
      have hs : (tokAt (toks.map toTk) x.next).sort = 1 := by rw [tokAt_map]; exact (sortK_one _).2 hk
      obtain ⟨_, g', b2, b3⟩ := lstR_go (acc := acc.map toTk) hg hx hz ⟨rfl, hs⟩
      rw [a3, b3]
      have := ih f' g' ⟨x.next + 1, x.failed, x.wrong⟩ (acc ++ [ptAt toks x.next]) (by simp only; omega) a2 b2 a1
      rw [List.map_append, List.map_singleton, ← tokAt_map] at this
      exact this
    · rw [nmsR_stop hk, lstR_stop (by rw [tokAt_map]; intro e; exact hk ((sortK_one _).1 e.2))]
      exact ⟨rfl, rfl, rfl, hx⟩
theorem al_list {x : PS} {y : St} (h : Al toks.length x y) : Al toks.length (takeP toks toks.length 11 (nmsR toks toks.length x []).2) (listS (toks.map toTk) y).2 ∧ (listS (toks.map toTk) y).1 = (nmsR toks toks.length x []).1.map toTk := by
  rcases h with ⟨h1, h2, h4, h5⟩ | ⟨p, hb, hy⟩
  · obtain ⟨a, b, c, d⟩ := good_nms H toks.length toks.length toks.length x [] (by omega) (by omega) (by omega) h5
    have e := al_eat H (k := 11) (by decide) (by decide) (x := (nmsR toks toks.length x []).2) (y := ⟨(nmsR toks toks.length x []).2.next, none, y.pl, y.ca⟩) (.inl ⟨by rw [b, h1], rfl, rfl, d⟩)
    unfold listS listR
    rw [h4, h2]
    simp only [List.length_map]
    rw [List.map_nil] at a
    rw [a]
    exact ⟨e, rfl⟩
  · refine ⟨.inr ⟨p, ?_, rbad_list _ hy⟩, ?_⟩
    · rw [pbad_nms H hb]; exact pbad_take H (by decide) hb
    · rw [pbad_nms H hb]
      unfold listS listR
      simp only [hy, rbad_lst]
      rfl
end
end Go.Proofs.YtgbmakpdjdigmaaGreatDoor

/- Plain mathematics: values and statements without blocks: the program's parser and the document's reader tell the same. No condition. -/
namespace Go.Proofs.YtgbmakpdjdigmaaGreatDoor

/-- The document's kind of a statement of the program's kind. -/
def kindR (k : Nat) : Nat := if k = 4 then 6 else if k = 5 then 5 else k + 1
/-- The same value: of the statement u, which was s before. -/
structure VC (v : VS) (u s : FS) : Prop where
  kind : u.kind = kindR v.kind
  q : u.q = toTk v.sr
  args : u.args = v.args.map toTk
  field : v.kind = 3 → u.field = v.field
  p : u.p = s.p
  body : u.body = s.body
  other : u.other = s.other
  br : u.br = s.br
  br2 : u.br2 = s.br2
  inn : u.inn = s.inn
theorem digN_digK {t : PT} (h : DigT t) (hk : t.kind = 2) (f0 : Nat) : digK t.text.toList f0 4 = digN t := by
  have e : ∀ c : UInt8, (⟨#[c]⟩ : ByteArray).toList = [c] := fun c => by rw [ByteArray.toList_eq]
  rcases h hk with q | q | q | q <;> (unfold digN; rw [q, e]; simp [digK])

section
variable {N : Nat} {toks : List PT} (H : TksOk N toks) (HD : DigOk toks)
include H HD
omit H HD in
theorem take_good {k : Nat} {x : PS} (h : (takeP toks toks.length k x).failed = false) : (ptAt toks x.next).kind = k ∧ x.failed = false ∧ takeV toks k x = ptAt toks x.next := by
  unfold takeP at h
  split at h
  · rename_i hk
    refine ⟨hk, ?_, by unfold takeV; rw [if_pos hk]⟩
    split at h <;> exact h
  · simp [failP] at h
theorem al_val {x : PS} {y : St} (s : FS) (ha : s.args = []) (hq : s.q = tkNo) (h : PGood toks.length x y) :
    Al toks.length (valP toks toks.length x).2 (valS (toks.map toTk) y s).2 ∧ ((valP toks toks.length x).2.failed = false → VC (valP toks toks.length x).1 (valS (toks.map toTk) y s).1 s) := by
  have A : Al toks.length x y := .inl h
  have W := fun (k : Nat) (h3 : 3 ≤ k) (h20 : k ≤ 20) => good_word H h3 h20 h
  have w5 := W 5 (by decide) (by decide)
  have w16 := W 16 (by decide) (by decide)
  have w17 := W 17 (by decide) (by decide)
  have w18 := W 18 (by decide) (by decide)
  have w10 := W 10 (by decide) (by decide)
  have E := fun (k : Nat) (h3 : 3 ≤ k) (h20 : k ≤ 20) {x : PS} {y : St} (h : Al toks.length x y) => al_eat H h3 h20 h
  have G := fun {x : PS} {y : St} (h : Al toks.length x y) => al_get H (k := 1) (so := 1) (by decide) h
  simp only [litK, Nat.reduceEqDiff, if_true, if_false] at w5 w16 w17 w18 w10
  unfold valS valP
  by_cases k5 : (ptAt toks x.next).kind = 5
  · rw [if_pos (w5.2 k5), if_pos k5]
    have a1 := E 5 (by decide) (by decide) A
    refine ⟨?_, fun _ => ⟨rfl, hq, ha, fun e => absurd e (by simp), rfl, rfl, rfl, rfl, rfl, rfl⟩⟩
    rcases a1 with a | a
    · exact .inl a
    · exact .inr a
  rw [if_neg (fun e => k5 (w5.1 e)), if_neg k5]
  by_cases k16 : (ptAt toks x.next).kind = 16
  · rw [if_pos (w16.2 k16), if_pos k16]
    have a1 := E 16 (by decide) (by decide) A
    obtain ⟨a2, e2⟩ := G a1
    have n19 := al_next H (k := 19) (by decide) (by decide) a2
    simp only [litK, Nat.reduceEqDiff, if_true, if_false] at a1 a2 e2 n19
    unfold addrP
    by_cases k19 : (ptAt toks (takeP toks toks.length 1 (takeP toks toks.length 16 x)).next).kind = 19
    · simp only [if_pos (n19.2 k19), if_pos k19]
      have a3 := E 19 (by decide) (by decide) a2
      obtain ⟨a4, e4⟩ := al_get H (k := 2) (so := 3) (by decide) a3
      simp only [litK, Nat.reduceEqDiff, if_true, if_false] at a3 a4 e4
      refine ⟨a4, fun hg => ⟨rfl, e2, ha, fun _ => ?_, rfl, rfl, rfl, rfl, rfl, rfl⟩⟩
      obtain ⟨g1, g2, g3⟩ := take_good hg
      rw [e4]
      simp only [toTk]
      have hlt : (takeP toks toks.length 19 (takeP toks toks.length 1 (takeP toks toks.length 16 x))).next < toks.length := by
        rcases a3 with a | ⟨p, a, _⟩
        · exact a.2.2.2
        · have := a.2.2; have := H.pos; omega
      exact digN_digK (by rw [g3]; exact HD _ (ptAt_inm hlt)) (by rw [g3]; exact g1) _
    · simp only [if_neg (fun e => k19 (n19.1 e)), if_neg k19]
      exact ⟨a2, fun _ => ⟨rfl, e2, ha, fun e => absurd e (by simp), rfl, rfl, rfl, rfl, rfl, rfl⟩⟩
  rw [if_neg (fun e => k16 (w16.1 e)), if_neg k16]
  by_cases k17 : (ptAt toks x.next).kind = 17
  · rw [if_pos (w17.2 k17), if_pos k17]
    have a1 := E 17 (by decide) (by decide) A
    obtain ⟨a2, e2⟩ := G a1
    exact ⟨a2, fun _ => ⟨rfl, e2, ha, fun e => absurd e (by simp), rfl, rfl, rfl, rfl, rfl, rfl⟩⟩
  rw [if_neg (fun e => k17 (w17.1 e)), if_neg k17]
  by_cases k18 : (ptAt toks x.next).kind = 18
  · rw [if_pos (w18.2 k18), if_pos k18]
    have a1 := E 18 (by decide) (by decide) A
    obtain ⟨a2, e2⟩ := G a1
    exact ⟨a2, fun _ => ⟨rfl, e2, ha, fun e => absurd e (by simp), rfl, rfl, rfl, rfl, rfl, rfl⟩⟩
  rw [if_neg (fun e => k18 (w18.1 e)), if_neg k18]
  by_cases k10 : (ptAt toks x.next).kind = 10
  · rw [if_pos (w10.2 k10), if_pos k10]
    have a2 := E 17 (by decide) (by decide) (E 10 (by decide) (by decide) A)
    obtain ⟨a3, e3⟩ := G a2
    have a5 := E 10 (by decide) (by decide) (E 11 (by decide) (by decide) a3)
    unfold callP namesP
    generalize hy5 : eatS (toks.map toTk) (litK 10) (eatS (toks.map toTk) (litK 11) (getS (toks.map toTk) 1 (eatS (toks.map toTk) (litK 17) (eatS (toks.map toTk) (litK 10) y))).2) = y5 at a5
    have hy5' : eatS (toks.map toTk) [40] (eatS (toks.map toTk) [41] (getS (toks.map toTk) 1 (eatS (toks.map toTk) [42] (eatS (toks.map toTk) [40] y))).2) = y5 := hy5
    simp only
    rw [hy5']
    have a6 : Al toks.length (takeP toks toks.length 10 (takeP toks toks.length 11 (takeP toks toks.length 1 (takeP toks toks.length 17 (takeP toks toks.length 10 x))))) ⟨y5.cur, y5.bad, y5.pl, y5.ca + 1⟩ := a5
    obtain ⟨a7, e7⟩ := al_list H a6
    exact ⟨a7, fun _ => ⟨rfl, e3, e7, fun e => absurd e (by simp), rfl, rfl, rfl, rfl, rfl, rfl⟩⟩
  rw [if_neg (fun e => k10 (w10.1 e)), if_neg k10]
  obtain ⟨a1, e1⟩ := G A
  have n10 := al_next H (k := 10) (by decide) (by decide) a1
  simp only [litK, Nat.reduceEqDiff, if_true, if_false] at n10
  by_cases q10 : (ptAt toks (takeP toks toks.length 1 x).next).kind = 10
  · simp only [if_pos (n10.2 q10), if_pos q10]
    have a2 := E 10 (by decide) (by decide) a1
    obtain ⟨a3, e3⟩ := al_list H a2
    unfold namesP
    exact ⟨a3, fun _ => ⟨rfl, e1, e3, fun e => absurd e (by simp), rfl, rfl, rfl, rfl, rfl, rfl⟩⟩
  · simp only [if_neg (fun e => q10 (n10.1 e)), if_neg q10]
    exact ⟨a1, fun _ => ⟨rfl, e1, ha, fun e => absurd e (by simp), rfl, rfl, rfl, rfl, rfl, rfl⟩⟩
/-- The same statement without blocks. -/
structure SC (v : VS) (u : FS) (inn : Nat) : Prop where
  kind : u.kind = kindR v.kind
  few : v.kind ≤ 10
  p : u.p = toTk v.tg
  q : u.q = toTk v.sr
  args : u.args = v.args.map toTk
  field : v.kind = 3 → u.field = v.field
  inn : u.inn = inn
omit H HD in
theorem valP_few (toks : List PT) (n : Nat) (x : PS) : 1 ≤ (valP toks n x).1.kind ∧ (valP toks n x).1.kind ≤ 8 := by
  unfold valP
  split
  · simp
  · split
    · unfold addrP
      simp only
      split <;> simp
    · split
      · simp
      · split
        · simp
        · split
          · simp [callP]
          · split <;> simp
theorem al_plain {x : PS} {y : St} (inn : Nat) (h : PGood toks.length x y) :
    Al toks.length (plainP toks toks.length x).2 (plainS (toks.map toTk) inn y).2 ∧ ((plainP toks toks.length x).2.failed = false → SC (plainP toks toks.length x).1 (plainS (toks.map toTk) inn y).1 inn) := by
  have A : Al toks.length x y := .inl h
  have W := fun (k : Nat) (h3 : 3 ≤ k) (h20 : k ≤ 20) => good_word H h3 h20 h
  have w4 := W 4 (by decide) (by decide)
  have w6 := W 6 (by decide) (by decide)
  have w17 := W 17 (by decide) (by decide)
  have E := fun (k : Nat) (h3 : 3 ≤ k) (h20 : k ≤ 20) {x : PS} {y : St} (h : Al toks.length x y) => al_eat H h3 h20 h
  have G := fun {x : PS} {y : St} (h : Al toks.length x y) => al_get H (k := 1) (so := 1) (by decide) h
  simp only [litK, Nat.reduceEqDiff, if_true, if_false] at w4 w6 w17
  unfold plainS plainP
  by_cases k4 : (ptAt toks x.next).kind = 4
  · rw [if_pos (w4.2 k4), if_pos k4]
    obtain ⟨a2, e2⟩ := G (E 4 (by decide) (by decide) A)
    exact ⟨a2, fun _ => ⟨rfl, by simp only; omega, e2, rfl, rfl, fun e => absurd e (by simp), rfl⟩⟩
  rw [if_neg (fun e => k4 (w4.1 e)), if_neg k4]
  by_cases k6 : (ptAt toks x.next).kind = 6
  · rw [if_pos (w6.2 k6), if_pos k6]
    obtain ⟨a2, e2⟩ := G (E 6 (by decide) (by decide) A)
    exact ⟨a2, fun _ => ⟨rfl, by simp only; omega, rfl, e2, rfl, fun e => absurd e (by simp), rfl⟩⟩
  rw [if_neg (fun e => k6 (w6.1 e)), if_neg k6]
  by_cases k17 : (ptAt toks x.next).kind = 17
  · rw [if_pos (w17.2 k17), if_pos k17]
    obtain ⟨a2, e2⟩ := G (E 17 (by decide) (by decide) A)
    obtain ⟨a4, e4⟩ := G (E 15 (by decide) (by decide) a2)
    exact ⟨a4, fun _ => ⟨rfl, by simp only; omega, e2, e4, rfl, fun e => absurd e (by simp), rfl⟩⟩
  rw [if_neg (fun e => k17 (w17.1 e)), if_neg k17]
  obtain ⟨a1, e1⟩ := G A
  have a2 := E 15 (by decide) (by decide) a1
  have few := valP_few toks toks.length (takeP toks toks.length 15 (takeP toks toks.length 1 x))
  simp only
  rcases a2 with a2 | ⟨p, b1, b2⟩
  · obtain ⟨a3, e3⟩ := al_val H HD { zFS inn (-1) with p := (getS (toks.map toTk) 1 y).1 } rfl rfl a2
    refine ⟨a3, fun hg => ?_⟩
    have v := e3 hg
    exact ⟨v.kind, by simp only; omega, v.p.trans e1, v.q, v.args, v.field, v.inn⟩
  · have c1 := pbad_val H b1
    refine ⟨.inr ⟨p, c1, rbad_val _ _ b2⟩, fun hg => ?_⟩
    rw [c1.1] at hg
    cases hg
end
end Go.Proofs.YtgbmakpdjdigmaaGreatDoor

/- Plain mathematics: blocks: the program's parser and the document's reader tell the same: the same first fault, or the same statements, once as trees, once in a flat list. No condition. -/
namespace Go.Proofs.YtgbmakpdjdigmaaGreatDoor

inductive All2 {A B : Type} (R : A → B → Prop) : List A → List B → Prop
  | nil : All2 R [] []
  | cons {a : A} {b : B} {l : List A} {m : List B} (h : R a b) (t : All2 R l m) : All2 R (a :: l) (b :: m)
theorem All2.mono {A B : Type} {R S : A → B → Prop} {l : List A} {m : List B} (h : All2 R l m) (k : ∀ a b, R a b → S a b) : All2 S l m := by
  induction h with
  | nil => exact .nil
  | cons h _ ih => exact .cons (k _ _ h) ih
theorem All2.append {A B : Type} {R : A → B → Prop} {l l' : List A} {m m' : List B} (h : All2 R l m) (r : All2 R l' m') : All2 R (l ++ l') (m ++ m') := by
  induction h with
  | nil => exact r
  | cons h _ ih => exact .cons h ih
theorem All2.length {A B : Type} {R : A → B → Prop} {l : List A} {m : List B} (h : All2 R l m) : l.length = m.length := by
  induction h with
  | nil => rfl
  | cons _ _ ih => simp [ih]
theorem All2.get {A B : Type} {R : A → B → Prop} {l : List A} {m : List B} (h : All2 R l m) : ∀ (i : Nat) (hi : i < l.length) (hi' : i < m.length), R l[i] m[i] := by
  induction h with
  | nil => intro i hi; simp at hi
  | cons h _ ih =>
    intro i hi hi'
    cases i with
    | zero => exact h
    | succ i => exact ih i (by simpa using hi) (by simpa using hi')

/-- The statement at i of the flat list is this tree, to a depth. -/
def Flat (inn : Nat) : Nat → List FS → Nat → TS → Prop
  | 0, _, _, _ => False
  | d + 1, fs, i, .mk s bl => ∃ u, fs[i]? = some u ∧
      ((bl = [] ∧ SC s u inn) ∨
       (∃ p ts, bl = [(p, ts)] ∧ s = vsK 12 ∧ u.kind = 13 ∧ u.inn = inn ∧ u.br = ((p : Nat) : Int) ∧ u.br2 = -1 ∧ u.other = [] ∧ All2 (fun j t => i < j ∧ Flat inn d fs j t) u.body ts) ∨
       (∃ p ts, bl = [(p, ts)] ∧ s = vsK 11 ∧ u.kind = 12 ∧ u.inn = inn ∧ u.br = ((p : Nat) : Int) ∧ u.br2 = -1 ∧ u.other = [] ∧ All2 (fun j t => i < j ∧ Flat inn d fs j t) u.body ts) ∨
       (∃ p ts p2 ts2, bl = [(p, ts), (p2, ts2)] ∧ s = vsK 11 ∧ u.kind = 12 ∧ u.inn = inn ∧ u.br = ((p : Nat) : Int) ∧ u.br2 = ((p2 : Nat) : Int) ∧ All2 (fun j t => i < j ∧ Flat inn d fs j t) u.body ts ∧ All2 (fun j t => i < j ∧ Flat inn d fs j t) u.other ts2))
theorem Flat.up {inn : Nat} : ∀ {d : Nat} {fs : List FS} {i : Nat} {t : TS}, Flat inn d fs i t → Flat inn (d + 1) fs i t
  | 0, _, _, _, h => h.elim
  | d + 1, fs, i, .mk s bl, h => by
    obtain ⟨u, h0, h⟩ := h
    refine ⟨u, h0, ?_⟩
    have M : ∀ (l : List Nat) (m : List TS), All2 (fun j t => i < j ∧ Flat inn d fs j t) l m → All2 (fun j t => i < j ∧ Flat inn (d + 1) fs j t) l m := fun l m q => q.mono (fun a b r => ⟨r.1, r.2.up⟩)
    rcases h with h | ⟨p, ts, h1, h2, h3, h4, h5, h6, h7, h8⟩ | ⟨p, ts, h1, h2, h3, h4, h5, h6, h7, h8⟩ | ⟨p, ts, p2, ts2, h1, h2, h3, h4, h5, h6, h7, h8⟩
    · exact .inl h
    · exact .inr (.inl ⟨p, ts, h1, h2, h3, h4, h5, h6, h7, M _ _ h8⟩)
    · exact .inr (.inr (.inl ⟨p, ts, h1, h2, h3, h4, h5, h6, h7, M _ _ h8⟩))
    · exact .inr (.inr (.inr ⟨p, ts, p2, ts2, h1, h2, h3, h4, h5, h6, M _ _ h7, M _ _ h8⟩))
/-- What is there of a list is not turned. -/
def Pre (a b : List FS) : Prop := a.length ≤ b.length ∧ ∀ i, i < a.length → b[i]? = a[i]?
theorem Pre.refl (a : List FS) : Pre a a := ⟨Nat.le_refl _, fun _ _ => rfl⟩
theorem Pre.trans {a b c : List FS} (h : Pre a b) (k : Pre b c) : Pre a c := ⟨Nat.le_trans h.1 k.1, fun i hi => (k.2 i (Nat.lt_of_lt_of_le hi h.1)).trans (h.2 i hi)⟩
theorem Flat.keep {inn k : Nat} : ∀ {d : Nat} {fs fs' : List FS} {i : Nat} {t : TS}, Flat inn d fs i t → k ≤ i → (∀ j, k ≤ j → j < fs.length → fs'[j]? = fs[j]?) → Flat inn d fs' i t
  | 0, _, _, _, _, h, _, _ => h.elim
  | d + 1, fs, fs', i, .mk s bl, h, hk, hp => by
    obtain ⟨u, h0, h⟩ := h
    have hi : i < fs.length := by
      rcases Nat.lt_or_ge i fs.length with q | q
      · exact q
      · rw [List.getElem?_eq_none q] at h0; cases h0
    refine ⟨u, by rw [hp i hk hi]; exact h0, ?_⟩
    have M : ∀ (l : List Nat) (m : List TS), All2 (fun j t => i < j ∧ Flat inn d fs j t) l m → All2 (fun j t => i < j ∧ Flat inn d fs' j t) l m := fun l m q => q.mono (fun a b r => ⟨r.1, r.2.keep (by have := r.1; omega) hp⟩)
    rcases h with h | ⟨p, ts, h1, h2, h3, h4, h5, h6, h7, h8⟩ | ⟨p, ts, h1, h2, h3, h4, h5, h6, h7, h8⟩ | ⟨p, ts, p2, ts2, h1, h2, h3, h4, h5, h6, h7, h8⟩
    · exact .inl h
    · exact .inr (.inl ⟨p, ts, h1, h2, h3, h4, h5, h6, h7, M _ _ h8⟩)
    · exact .inr (.inr (.inl ⟨p, ts, h1, h2, h3, h4, h5, h6, h7, M _ _ h8⟩))
    · exact .inr (.inr (.inr ⟨p, ts, p2, ts2, h1, h2, h3, h4, h5, h6, M _ _ h7, M _ _ h8⟩))
theorem Flat.pre {inn d : Nat} {fs fs' : List FS} {i : Nat} {t : TS} (h : Flat inn d fs i t) (hp : Pre fs fs') : Flat inn d fs' i t := h.keep (k := 0) (Nat.zero_le _) (fun j _ hj => hp.2 j hj)
theorem set_pre (fs fs' : List FS) (z u : FS) (h : Pre (fs ++ [z]) fs') : Pre fs (fs'.set fs.length u) ∧ (fs'.set fs.length u)[fs.length]? = some u ∧ fs.length < (fs'.set fs.length u).length ∧ (∀ j, fs.length + 1 ≤ j → j < fs'.length → (fs'.set fs.length u)[j]? = fs'[j]?) := by
  have h1 := h.1
  simp only [List.length_append, List.length_singleton] at h1
  refine ⟨⟨by simp only [List.length_set]; omega, fun i hi => ?_⟩, ?_, by simp only [List.length_set]; omega, fun j hj hj' => ?_⟩
  · rw [List.getElem?_set_ne (by omega), h.2 i (by simp; omega), List.getElem?_append_left hi]
  · rw [List.getElem?_set_self (by omega)]
  · rw [List.getElem?_set_ne (by omega)]

/-- Behind a block's statements: both stand alike, or the reader has found the token at which the parser stands. -/
def AlB (toks : List PT) (x : PS) (y : St) : Prop := Al toks.length x y ∨ (x.failed = false ∧ x.next < toks.length ∧ (ptAt toks x.next).kind ≠ 13 ∧ y.bad = some (ptAt toks x.next).place)

section
variable {N : Nat} {toks : List PT} (H : TksOk N toks) (HD : DigOk toks)
include H HD
omit HD in
theorem al_close {x : PS} {y : St} (h : AlB toks x y) : Al toks.length (takeP toks toks.length 13 x) (eatS (toks.map toTk) [125] y) := by
  rcases h with h | ⟨h1, h2, h3, h4⟩
  · exact al_eat H (k := 13) (by decide) (by decide) h
  · refine .inr ⟨_, ?_, rbad_eat _ _ h4⟩
    unfold takeP
    rw [if_neg h3]
    exact ⟨rfl, by simp [failP, h1], rfl⟩
omit H HD in
theorem take_next {k : Nat} (hk : k ≠ 0) {x : PS} (h : (takeP toks toks.length k x).failed = false) : x.failed = false ∧ (takeP toks toks.length k x).next = x.next + 1 ∧ (takeV toks k x) = ptAt toks x.next ∧ (ptAt toks x.next).kind = k := by
  obtain ⟨h1, h2, h3⟩ := take_good h
  exact ⟨h2, takeP_more h1 hk, h3, h1⟩
omit H HD in
theorem al_failed {n : Nat} {x : PS} {y : St} (h : Al n x y) (hy : y.bad = none) : PGood n x y := by
  rcases h with h | ⟨p, _, h⟩
  · exact h
  · rw [hy] at h; cases h
omit H HD in
theorem al_ok {n : Nat} {x : PS} {y : St} (h : Al n x y) (hx : x.failed = false) : PGood n x y := by
  rcases h with h | ⟨p, h, _⟩
  · exact h
  · rw [h.1] at hx; cases hx
omit H HD in
theorem rbad_stmts (T : List Tk) (f inn : Nat) {y : St} {p : Nat} (fs : List FS) (out : List Nat) (h : y.bad = some p) : rStmts T f inn y fs out = (out, y, fs) := by
  cases f with
  | zero => rw [rStmts]
  | succ f => rw [rStmts, if_pos (.inl (by simp [h]))]

/-- What is proved of statements at a fuel. -/
def StmtsAl (toks : List PT) (f1 : Nat) : Prop := ∀ (f2 : Nat) (x : PS) (y : St) (inn : Nat) (fs : List FS) (acc : List TS) (out : List Nat), Al toks.length x y → (x.failed = false → 2 * (toks.length - x.next) + 1 ≤ f1 ∧ 2 * (toks.length - x.next) + 1 ≤ f2) →
      AlB toks (stmtsP toks toks.length f1 x acc).2 (rStmts (toks.map toTk) f2 inn y fs out).2.1 ∧
      ((rStmts (toks.map toTk) f2 inn y fs out).2.1.bad = none → ∃ ts ls, (stmtsP toks toks.length f1 x acc).1 = acc ++ ts ∧ (rStmts (toks.map toTk) f2 inn y fs out).1 = out ++ ls ∧ All2 (fun j t => fs.length ≤ j ∧ Flat inn f1 (rStmts (toks.map toTk) f2 inn y fs out).2.2 j t) ls ts ∧ Pre fs (rStmts (toks.map toTk) f2 inn y fs out).2.2)
omit HD in
theorem al_block {f1 f2 : Nat} (ih : StmtsAl toks f1) {x : PS} {y : St} (inn : Nat) (fs : List FS) (A : Al toks.length x y) (hf : x.failed = false → 2 * (toks.length - x.next) ≤ f1 + 1 ∧ 2 * (toks.length - x.next) ≤ f2 + 1) :
    Al toks.length (takeP toks toks.length 13 (stmtsP toks toks.length f1 (takeP toks toks.length 12 x) []).2) (eatS (toks.map toTk) [125] (rStmts (toks.map toTk) f2 inn (eatS (toks.map toTk) [123] y) fs []).2.1) ∧
    ((eatS (toks.map toTk) [125] (rStmts (toks.map toTk) f2 inn (eatS (toks.map toTk) [123] y) fs []).2.1).bad = none →
      All2 (fun j t => fs.length ≤ j ∧ Flat inn f1 (rStmts (toks.map toTk) f2 inn (eatS (toks.map toTk) [123] y) fs []).2.2 j t) (rStmts (toks.map toTk) f2 inn (eatS (toks.map toTk) [123] y) fs []).1 (stmtsP toks toks.length f1 (takeP toks toks.length 12 x) []).1 ∧ Pre fs (rStmts (toks.map toTk) f2 inn (eatS (toks.map toTk) [123] y) fs []).2.2 ∧ (tokAt (toks.map toTk) y.cur).pos = (takeV toks 12 x).place ∧ y.bad = none) := by
  have a3 := al_eat H (k := 12) (by decide) (by decide) A
  simp only [litK, Nat.reduceEqDiff, if_true, if_false] at a3
  obtain ⟨b1, b2⟩ := ih f2 (takeP toks toks.length 12 x) (eatS (toks.map toTk) [123] y) inn fs [] [] a3 (fun e => by
    have q := take_next (k := 12) (by decide) e
    have := hf q.1
    have := (al_ok a3 e).2.2.2
    omega)
  refine ⟨al_close H b1, fun e => ?_⟩
  have q1 := ((eatS_goes (toks.map toTk) [125] _).2.2.2 e).1
  have q2 : (eatS (toks.map toTk) [123] y).bad = none := by
    cases hq : (eatS (toks.map toTk) [123] y).bad with
    | none => rfl
    | some p => rw [rbad_stmts _ _ _ _ _ hq] at q1; simp only [hq] at q1; cases q1
  have q3 := ((eatS_goes (toks.map toTk) [123] y).2.2.2 q2).1
  obtain ⟨ts, ls, c1, c2, c3, c4⟩ := b2 q1
  simp only [List.nil_append] at c1 c2
  rw [c1, c2]
  refine ⟨c3, c4, ?_, q3⟩
  have g3 := al_failed a3 q2
  have g := al_failed A q3
  rw [(take_next (k := 12) (by decide) g3.1).2.2.1, g.2.2.1, tokAt_map]
  rfl

theorem al_both : ∀ f1 : Nat, StmtsAl toks f1 ∧
    (∀ (f2 : Nat) (x : PS) (y : St) (inn : Nat) (fs : List FS), PGood toks.length x y → beginK (ptAt toks x.next).kind → 2 * (toks.length - x.next) ≤ f1 → 2 * (toks.length - x.next) ≤ f2 →
      Al toks.length (stmtP toks toks.length f1 x).2 (rStmt (toks.map toTk) f2 inn y fs).2.1 ∧
      ((rStmt (toks.map toTk) f2 inn y fs).2.1.bad = none → (rStmt (toks.map toTk) f2 inn y fs).1 = fs.length ∧ Flat inn f1 (rStmt (toks.map toTk) f2 inn y fs).2.2 fs.length (stmtP toks toks.length f1 x).1 ∧ Pre fs (rStmt (toks.map toTk) f2 inn y fs).2.2 ∧ fs.length < (rStmt (toks.map toTk) f2 inn y fs).2.2.length)) := by
  have E := fun (k : Nat) (h3 : 3 ≤ k) (h20 : k ≤ 20) {x : PS} {y : St} (h : Al toks.length x y) => al_eat H h3 h20 h
  have TN := fun (k : Nat) (hk : k ≠ 0) {x : PS} (h : (takeP toks toks.length k x).failed = false) => take_next hk h
  intro f1
  induction f1 with
  | zero =>
    refine ⟨fun f2 x y inn fs acc out h hf => ?_, fun f2 x y inn fs h hb hf _ => ?_⟩
    · rcases h with h | ⟨p, hb, hy⟩
      · have := (hf h.1).1; have := h.2.2.2; omega
      · rw [rbad_stmts _ _ _ _ _ hy]
        refine ⟨.inl (.inr ⟨p, by rw [stmtsP]; exact hb, hy⟩), fun e => ?_⟩
        rw [hy] at e; cases e
    · have := h.2.2.2; omega
  | succ f1 ih =>
    refine ⟨fun f2 x y inn fs acc out h hf => ?_, fun f2 x y inn fs h hb hf hf2 => ?_⟩
    · rcases h with h | ⟨p, hb, hy⟩
      · obtain ⟨hf1, hf2⟩ := hf h.1
        have hxn := h.2.2.2
        obtain ⟨g2, hg2⟩ : ∃ g2, f2 = g2 + 1 := ⟨f2 - 1, by omega⟩
        subst hg2
        have n13 := al_next H (k := 13) (by decide) (by decide) (.inl h : Al toks.length x y)
        simp only [litK, Nat.reduceEqDiff, if_true, if_false] at n13
        by_cases hbg : beginK (ptAt toks x.next).kind
        · have h13 : ¬ (ptAt toks x.next).kind = 13 := by unfold beginK at hbg; omega
          have hst : ¬ (y.bad ≠ none ∨ nextB y.bad (tokAt (toks.map toTk) y.cur) [125] = true) := by
            rintro (q | q)
            · exact q h.2.1
            · exact h13 (n13.1 q)
          rw [stmtsP, if_pos hbg, rStmts, if_neg hst]
          obtain ⟨a1, a2⟩ := ih.2 g2 x y inn fs h hbg (by omega) (by omega)
          have hmo : (stmtP toks toks.length f1 x).2.failed = false → x.next + 1 ≤ (stmtP toks toks.length f1 x).2.next := by
            intro _
            obtain ⟨e1, he1⟩ : ∃ e1, f1 = e1 + 1 := ⟨f1 - 1, by omega⟩
            subst he1
            exact stmtP_more H.end_ e1 hxn hbg
          obtain ⟨b1, b2⟩ := ih.1 g2 (stmtP toks toks.length f1 x).2 (rStmt (toks.map toTk) g2 inn y fs).2.1 inn (rStmt (toks.map toTk) g2 inn y fs).2.2 (acc ++ [(stmtP toks toks.length f1 x).1]) (out ++ [(rStmt (toks.map toTk) g2 inn y fs).1]) a1 (fun e => by have := hmo e; omega)
          refine ⟨b1, fun e => ?_⟩
          obtain ⟨ts, ls, c1, c2, c3, c4⟩ := b2 e
          have hyb : (rStmt (toks.map toTk) g2 inn y fs).2.1.bad = none := by
            cases hq : (rStmt (toks.map toTk) g2 inn y fs).2.1.bad with
            | none => rfl
            | some p => rw [rbad_stmts _ _ _ _ _ hq] at e; simp only [hq] at e; cases e
          obtain ⟨d1, d2, d3, d4⟩ := a2 hyb
          refine ⟨(stmtP toks toks.length f1 x).1 :: ts, fs.length :: ls, by rw [c1]; simp, by rw [c2, d1]; simp, .cons ⟨Nat.le_refl _, (d2.pre c4).up⟩ (c3.mono (fun a b r => ⟨by have := r.1; omega, r.2.up⟩)), d3.trans c4⟩
        · rw [stmtsP, if_neg hbg]
          by_cases h13 : (ptAt toks x.next).kind = 13
          · rw [rStmts, if_pos (.inr (n13.2 h13))]
            exact ⟨.inl (.inl h), fun _ => ⟨[], [], by simp, by simp, .nil, Pre.refl _⟩⟩
          · have hst : ¬ (y.bad ≠ none ∨ nextB y.bad (tokAt (toks.map toTk) y.cur) [125] = true) := by
              rintro (q | q)
              · exact q h.2.1
              · exact h13 (n13.1 q)
            rw [rStmts, if_neg hst]
            obtain ⟨e2, he2⟩ : ∃ e2, g2 = e2 + 1 := ⟨g2 - 1, by omega⟩
            subst he2
            have W := fun (k : Nat) (h3 : 3 ≤ k) (h20 : k ≤ 20) => good_word H h3 h20 h
            have w4 := W 4 (by decide) (by decide)
            have w6 := W 6 (by decide) (by decide)
            have w7 := W 7 (by decide) (by decide)
            have w9 := W 9 (by decide) (by decide)
            have w17 := W 17 (by decide) (by decide)
            simp only [litK, Nat.reduceEqDiff, if_true, if_false] at w4 w6 w7 w9 w17
            unfold beginK at hbg
            have hbad : (rStmt (toks.map toTk) (e2 + 1) inn y fs).2.1.bad = some (ptAt toks x.next).place := by
              rw [rStmt, if_neg (by rw [w7, w9]; omega)]
              simp only
              refine rbad_eat _ _ ?_
              unfold plainS
              rw [if_neg (by rw [w4]; omega), if_neg (by rw [w6]; omega), if_neg (by rw [w17]; omega)]
              simp only
              refine rbad_val _ _ (rbad_eat _ _ ?_)
              unfold getS getR
              have hs : ¬ (y.bad.isNone = true ∧ (tokAt (toks.map toTk) y.cur).sort = 1) := by
                rintro ⟨_, e⟩
                rw [h.2.2.1, tokAt_map] at e
                have := (sortK_one _).1 e
                omega
              simp only [if_neg hs]
              rw [h.2.2.1, tokAt_map, h.2.1]
              rfl
            rw [rbad_stmts _ _ _ _ _ hbad]
            refine ⟨.inr ⟨h.1, hxn, h13, hbad⟩, fun e => ?_⟩
            simp only at e
            rw [hbad] at e; cases e
      · rw [rbad_stmts _ _ _ _ _ hy, stmtsP, if_neg (by rw [hb.2.2, H.end_]; decide)]
        refine ⟨.inl (.inr ⟨p, hb, hy⟩), fun e => ?_⟩
        rw [hy] at e; cases e
    · have hxn := h.2.2.2
      obtain ⟨g2, hg2⟩ : ∃ g2, f2 = g2 + 1 := ⟨f2 - 1, by omega⟩
      subst hg2
      have A : Al toks.length x y := .inl h
      have W := fun (k : Nat) (h3 : 3 ≤ k) (h20 : k ≤ 20) => good_word H h3 h20 h
      have w7 := W 7 (by decide) (by decide)
      have w9 := W 9 (by decide) (by decide)
      simp only [litK, Nat.reduceEqDiff, if_true, if_false] at w7 w9
      have TG := fun (k : Nat) {x : PS} (hc : x.next < toks.length) => takeP_goes (n := toks.length) H.end_ k hc
      by_cases k7 : (ptAt toks x.next).kind = 7
      · have hw := w7.2 k7
        have hor : wordOf (tokAt (toks.map toTk) y.cur) = ifL ∨ wordOf (tokAt (toks.map toTk) y.cur) = whileL := .inl hw
        rw [stmtP, if_pos k7, rStmt, if_pos hor]
        simp only [hw, if_true]
        have a2 := E 20 (by decide) (by decide) (E 7 (by decide) (by decide) A)
        simp only [litK, Nat.reduceEqDiff, if_true, if_false] at a2
        have g1 := TG 7 hxn
        have g2' := g1.trans (TG 20 g1.2)
        generalize takeP toks toks.length 20 (takeP toks toks.length 7 x) = x2 at *
        generalize eatS (toks.map toTk) [63] (eatS (toks.map toTk) [105, 102] y) = y2 at *
        obtain ⟨b1, b2⟩ := al_block H ih.1 (f2 := g2) inn (fs ++ [zFS 0 0]) a2 (fun _ => by have := g2'.1; omega)
        have g3 := g2'.trans (TG 12 g2'.2)
        have g4 := g3.trans (stmtsP_goes H.end_ f1 _ [] g3.2)
        have g5 := g4.trans (TG 13 g4.2)
        generalize stmtsP toks toks.length f1 (takeP toks toks.length 12 x2) [] = r at *
        generalize rStmts (toks.map toTk) g2 inn (eatS (toks.map toTk) [123] y2) (fs ++ [zFS 0 0]) [] = q at *
        have n8 := al_next H (k := 8) (by decide) (by decide) b1
        simp only [litK, Nat.reduceEqDiff, if_true, if_false] at n8
        by_cases k8 : (ptAt toks (takeP toks toks.length 13 r.2).next).kind = 8
        · rw [if_pos k8, if_pos (n8.2 k8)]
          have a4 := E 8 (by decide) (by decide) b1
          simp only [litK, Nat.reduceEqDiff, if_true, if_false] at a4
          have g6 := g5.trans (TG 8 g5.2)
          have hb3 : (eatS (toks.map toTk) [101, 108, 115, 101] (eatS (toks.map toTk) [125] q.2.1)).bad = none → (eatS (toks.map toTk) [125] q.2.1).bad = none := fun e => ((eatS_goes (toks.map toTk) [101, 108, 115, 101] _).2.2.2 e).1
          generalize takeP toks toks.length 8 (takeP toks toks.length 13 r.2) = x4 at *
          generalize eatS (toks.map toTk) [101, 108, 115, 101] (eatS (toks.map toTk) [125] q.2.1) = y4 at *
          obtain ⟨d1, d2⟩ := al_block H ih.1 (f2 := g2) inn q.2.2 a4 (fun _ => by have := g6.1; omega)
          generalize stmtsP toks toks.length f1 (takeP toks toks.length 12 x4) [] = r2 at *
          generalize rStmts (toks.map toTk) g2 inn (eatS (toks.map toTk) [123] y4) q.2.2 [] = q2 at *
          refine ⟨d1, fun e => ?_⟩
          obtain ⟨e1, e2, e3, e4⟩ := d2 e
          obtain ⟨c1, c2, c3, c4⟩ := b2 (hb3 e4)
          obtain ⟨s1, s2, s3, s4⟩ := set_pre fs q2.2.2 (zFS 0 0) { zFS inn (-1) with kind := 12, br := (tokAt (toks.map toTk) y2.cur).pos, body := q.1, br2 := (tokAt (toks.map toTk) y4.cur).pos, other := q2.1 } (c2.trans e2)
          have hq1 := c2.1
          simp only [List.length_append, List.length_singleton] at hq1
          refine ⟨by trivial, ⟨_, s2, .inr (.inr (.inr ⟨_, _, _, _, rfl, rfl, rfl, rfl, by simp only; rw [c3], by simp only; rw [e3], ?_, ?_⟩))⟩, s1, s3⟩
          · refine c1.mono (fun a b r => ?_)
            have r1 := r.1
            simp only [List.length_append, List.length_singleton] at r1
            exact ⟨by omega, (r.2.pre e2).keep (k := fs.length + 1) (by omega) s4⟩
          · refine e1.mono (fun a b r => ?_)
            have r1 := r.1
            exact ⟨by omega, r.2.keep (k := fs.length + 1) (by omega) s4⟩
        · rw [if_neg k8, if_neg (fun e => k8 (n8.1 e))]
          refine ⟨b1, fun e => ?_⟩
          obtain ⟨c1, c2, c3, c4⟩ := b2 e
          obtain ⟨s1, s2, s3, s4⟩ := set_pre fs q.2.2 (zFS 0 0) { zFS inn (-1) with kind := 12, br := (tokAt (toks.map toTk) y2.cur).pos, body := q.1 } c2
          refine ⟨by trivial, ⟨_, s2, .inr (.inr (.inl ⟨_, _, rfl, rfl, rfl, rfl, by simp only; rw [c3], rfl, rfl, ?_⟩))⟩, s1, s3⟩
          refine c1.mono (fun a b r => ?_)
          have r1 := r.1
          simp only [List.length_append, List.length_singleton] at r1
          exact ⟨by omega, r.2.keep (k := fs.length + 1) (by omega) s4⟩
      by_cases k9 : (ptAt toks x.next).kind = 9
      · have hw := w9.2 k9
        have hw7 : ¬ wordOf (tokAt (toks.map toTk) y.cur) = [105, 102] := fun e => k7 (w7.1 e)
        have hor : wordOf (tokAt (toks.map toTk) y.cur) = ifL ∨ wordOf (tokAt (toks.map toTk) y.cur) = whileL := .inr hw
        rw [stmtP, if_neg k7, if_pos k9, rStmt, if_pos hor, if_neg hw7]
        simp only [hw]
        have a2 := E 20 (by decide) (by decide) (E 9 (by decide) (by decide) A)
        simp only [litK, Nat.reduceEqDiff, if_true, if_false] at a2
        have g1 := TG 9 hxn
        have g2' := g1.trans (TG 20 g1.2)
        generalize takeP toks toks.length 20 (takeP toks toks.length 9 x) = x2 at *
        generalize eatS (toks.map toTk) [63] (eatS (toks.map toTk) [119, 104, 105, 108, 101] y) = y2 at *
        obtain ⟨b1, b2⟩ := al_block H ih.1 (f2 := g2) inn (fs ++ [zFS 0 0]) a2 (fun _ => by have := g2'.1; omega)
        generalize stmtsP toks toks.length f1 (takeP toks toks.length 12 x2) [] = r at *
        generalize rStmts (toks.map toTk) g2 inn (eatS (toks.map toTk) [123] y2) (fs ++ [zFS 0 0]) [] = q at *
        refine ⟨b1, fun e => ?_⟩
        obtain ⟨c1, c2, c3, c4⟩ := b2 e
        obtain ⟨s1, s2, s3, s4⟩ := set_pre fs q.2.2 (zFS 0 0) { zFS inn (-1) with kind := 13, br := (tokAt (toks.map toTk) y2.cur).pos, body := q.1 } c2
        refine ⟨by trivial, ⟨_, s2, .inr (.inl ⟨_, _, rfl, rfl, rfl, rfl, by simp only; rw [c3], rfl, rfl, ?_⟩)⟩, s1, s3⟩
        refine c1.mono (fun a b r => ?_)
        have r1 := r.1
        simp only [List.length_append, List.length_singleton] at r1
        exact ⟨by omega, r.2.keep (k := fs.length + 1) (by omega) s4⟩
      · rw [stmtP, if_neg k7, if_neg k9, rStmt, if_neg (fun e => e.elim (fun e => k7 (w7.1 e)) (fun e => k9 (w9.1 e)))]
        simp only
        obtain ⟨p1, p2⟩ := al_plain H HD inn h
        have p3 := E 14 (by decide) (by decide) p1
        simp only [litK, Nat.reduceEqDiff, if_true, if_false] at p3
        refine ⟨p3, fun e => ?_⟩
        have g := al_failed p3 e
        have hg := (TN 14 (by decide) g.1).1
        obtain ⟨s1, s2, s3, _⟩ := set_pre fs (fs ++ [zFS 0 0]) (zFS 0 0) (plainS (toks.map toTk) inn y).1 (Pre.refl _)
        exact ⟨by trivial, ⟨_, s2, .inl ⟨rfl, p2 hg⟩⟩, s1, s3⟩

end
end Go.Proofs.YtgbmakpdjdigmaaGreatDoor

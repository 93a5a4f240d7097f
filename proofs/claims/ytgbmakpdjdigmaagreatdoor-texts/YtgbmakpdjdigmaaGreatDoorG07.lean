/- TrE TrF TrG: told at each. -/
import Derived.Test.YtgbmakpdjdigmaaGreatDoorG06

/- Plain mathematics: the program's parser at statements and blocks (stmtP, stmtsP, blockP), with so much fuel; that it goes on. No condition. -/
namespace Go.Proofs.YtgbmakpdjdigmaaGreatDoor

/-- A statement: what it is but for its blocks, and those: each with its place. -/
inductive TS where
  | mk (s : VS) (bl : List (Nat × List TS))
def vsK (k : Nat) : VS := ⟨k, ptNo, ptNo, 0, []⟩
/-- Kinds of tokens that begin a statement. -/
def beginK (k : Nat) : Prop := k = 4 ∨ k = 1 ∨ k = 17 ∨ k = 6 ∨ k = 7 ∨ k = 9
instance (k : Nat) : Decidable (beginK k) := by unfold beginK; infer_instance
mutual
def stmtsP (toks : List PT) (n : Nat) : Nat → PS → List TS → List TS × PS
  | 0, x, acc => (acc, x)
  | f + 1, x, acc => if beginK (ptAt toks x.next).kind then stmtsP toks n f (stmtP toks n f x).2 (acc ++ [(stmtP toks n f x).1]) else (acc, x)
def stmtP (toks : List PT) (n : Nat) : Nat → PS → TS × PS
  | 0, x => (.mk (vsK 0) [], x)
  | f + 1, x =>
    if (ptAt toks x.next).kind = 7 then
      let x2 := takeP toks n 20 (takeP toks n 7 x)
      let r := stmtsP toks n f (takeP toks n 12 x2) []
      let x3 := takeP toks n 13 r.2
      if (ptAt toks x3.next).kind = 8 then
        let x4 := takeP toks n 8 x3
        let r2 := stmtsP toks n f (takeP toks n 12 x4) []
        (.mk (vsK 11) [((takeV toks 12 x2).place, r.1), ((takeV toks 12 x4).place, r2.1)], takeP toks n 13 r2.2)
      else (.mk (vsK 11) [((takeV toks 12 x2).place, r.1)], x3)
    else if (ptAt toks x.next).kind = 9 then
      let x2 := takeP toks n 20 (takeP toks n 9 x)
      let r := stmtsP toks n f (takeP toks n 12 x2) []
      (.mk (vsK 12) [((takeV toks 12 x2).place, r.1)], takeP toks n 13 r.2)
    else (.mk (plainP toks n x).1 [], takeP toks n 14 (plainP toks n x).2)
end

section
variable {toks : List PT} {n : Nat}
/-- It goes on, and stays within the tokens. -/
def Goes (n : Nat) (x y : PS) : Prop := x.next ≤ y.next ∧ y.next < n
theorem Goes.trans {x y z : PS} (h : Goes n x y) (k : Goes n y z) : Goes n x z := ⟨Nat.le_trans h.1 k.1, k.2⟩
theorem takeP_goes (hz : (ptAt toks (n - 1)).kind = 0) (k : Nat) {x : PS} (hc : x.next < n) : Goes n x (takeP toks n k x) := by
  refine ⟨?_, takeP_lt hz hc⟩
  unfold takeP
  split
  · split
    · exact Nat.le_refl _
    · exact Nat.le_succ _
  · show x.next ≤ n - 1
    omega
theorem takeP_more {k : Nat} {x : PS} (hk : (ptAt toks x.next).kind = k) (h0 : k ≠ 0) : (takeP toks n k x).next = x.next + 1 := by
  unfold takeP
  rw [if_pos hk, if_neg h0]
theorem nmsR_goes (hz : (ptAt toks (n - 1)).kind = 0) : ∀ (f : Nat) (x : PS) (acc : List PT), x.next < n → Goes n x (nmsR toks f x acc).2
  | 0, x, acc, h => ⟨Nat.le_refl _, h⟩
  | f + 1, x, acc, h => by
    simp only [nmsR]
    split
    · rename_i hb
      have hne : x.next ≠ n - 1 := by intro e; rw [e, hz] at hb; omega
      have := nmsR_goes hz f ⟨x.next + 1, x.failed, x.wrong⟩ (acc ++ [ptAt toks x.next]) (by show x.next + 1 < n; omega)
      exact ⟨by have := this.1; simp only at this; omega, this.2⟩
    · exact ⟨Nat.le_refl _, h⟩
theorem namesP_goes (hz : (ptAt toks (n - 1)).kind = 0) {x : PS} (hc : x.next < n) : Goes n x (namesP toks n x).2 := by
  have h1 := takeP_goes hz 10 hc
  have h2 := nmsR_goes hz toks.length _ [] h1.2
  exact (h1.trans h2).trans (takeP_goes hz 11 h2.2)
theorem callP_goes (hz : (ptAt toks (n - 1)).kind = 0) {x : PS} (hc : x.next < n) : Goes n x (callP toks n x).2 := by
  have h1 := takeP_goes hz 10 hc
  have h2 := h1.trans (takeP_goes hz 17 h1.2)
  have h3 := h2.trans (takeP_goes hz 1 h2.2)
  have h4 := h3.trans (takeP_goes hz 11 h3.2)
  exact h4.trans (namesP_goes hz h4.2)
theorem addrP_goes (hz : (ptAt toks (n - 1)).kind = 0) {x : PS} (hc : x.next < n) : Goes n x (addrP toks n x).2 := by
  have h1 := takeP_goes hz 16 hc
  have h2 := h1.trans (takeP_goes hz 1 h1.2)
  unfold addrP
  simp only
  split
  · have h3 := h2.trans (takeP_goes hz 19 h2.2)
    exact h3.trans (takeP_goes hz 2 h3.2)
  · exact h2
theorem valP_goes (hz : (ptAt toks (n - 1)).kind = 0) {x : PS} (hc : x.next < n) : Goes n x (valP toks n x).2 := by
  unfold valP
  split
  · exact takeP_goes hz 5 hc
  · split
    · exact addrP_goes hz hc
    · split
      · have h1 := takeP_goes hz 17 hc
        exact h1.trans (takeP_goes hz 1 h1.2)
      · split
        · have h1 := takeP_goes hz 18 hc
          exact h1.trans (takeP_goes hz 1 h1.2)
        · split
          · exact callP_goes hz hc
          · have h1 := takeP_goes hz 1 hc
            split
            · exact h1.trans (namesP_goes hz h1.2)
            · exact h1
/-- A statement without blocks takes a token, where one begins. -/
theorem plainP_more (hz : (ptAt toks (n - 1)).kind = 0) {x : PS} (hc : x.next < n) (hb : (ptAt toks x.next).kind = 4 ∨ (ptAt toks x.next).kind = 1 ∨ (ptAt toks x.next).kind = 17 ∨ (ptAt toks x.next).kind = 6) : x.next + 1 ≤ (plainP toks n x).2.next ∧ (plainP toks n x).2.next < n := by
  unfold plainP
  split
  · rename_i h
    have h1 := takeP_goes hz 4 hc
    have e := takeP_more (n := n) h (by omega)
    have h2 := takeP_goes hz 1 h1.2
    exact ⟨by have := h2.1; simp only; omega, h2.2⟩
  · split
    · rename_i h
      have h1 := takeP_goes hz 6 hc
      have e := takeP_more (n := n) h (by omega)
      have h2 := takeP_goes hz 1 h1.2
      exact ⟨by have := h2.1; simp only; omega, h2.2⟩
    · split
      · rename_i h
        have h1 := takeP_goes hz 17 hc
        have e := takeP_more (n := n) h (by omega)
        have h2 := takeP_goes hz 1 h1.2
        have h3 := h2.trans (takeP_goes hz 15 h2.2)
        have h4 := h3.trans (takeP_goes hz 1 h3.2)
        exact ⟨by have := h4.1; simp only; omega, h4.2⟩
      · have h : (ptAt toks x.next).kind = 1 := by omega
        have h1 := takeP_goes hz 1 hc
        have e := takeP_more (n := n) h (by omega)
        have h2 := takeP_goes hz 15 h1.2
        have h3 := h2.trans (valP_goes hz h2.2)
        exact ⟨by have := h3.1; simp only; omega, h3.2⟩
theorem plainP_goes (hz : (ptAt toks (n - 1)).kind = 0) {x : PS} (hc : x.next < n) : Goes n x (plainP toks n x).2 := by
  unfold plainP
  split
  · have h1 := takeP_goes hz 4 hc
    exact h1.trans (takeP_goes hz 1 h1.2)
  · split
    · have h1 := takeP_goes hz 6 hc
      exact h1.trans (takeP_goes hz 1 h1.2)
    · split
      · have h1 := takeP_goes hz 17 hc
        have h2 := h1.trans (takeP_goes hz 1 h1.2)
        have h3 := h2.trans (takeP_goes hz 15 h2.2)
        exact h3.trans (takeP_goes hz 1 h3.2)
      · have h1 := takeP_goes hz 1 hc
        have h2 := h1.trans (takeP_goes hz 15 h1.2)
        exact h2.trans (valP_goes hz h2.2)
mutual
theorem stmtsP_goes (hz : (ptAt toks (n - 1)).kind = 0) : ∀ (f : Nat) (x : PS) (acc : List TS), x.next < n → Goes n x (stmtsP toks n f x acc).2
  | 0, x, acc, h => ⟨Nat.le_refl _, h⟩
  | f + 1, x, acc, h => by
    unfold stmtsP
    split
    · have h1 := stmtP_goes hz f x h
      exact h1.trans (stmtsP_goes hz f _ _ h1.2)
    · exact ⟨Nat.le_refl _, h⟩
theorem stmtP_goes (hz : (ptAt toks (n - 1)).kind = 0) : ∀ (f : Nat) (x : PS), x.next < n → Goes n x (stmtP toks n f x).2
  | 0, x, h => ⟨Nat.le_refl _, h⟩
  | f + 1, x, h => by
    unfold stmtP
    split
    · have h1 := takeP_goes hz 7 h
      have h2 := h1.trans (takeP_goes hz 20 h1.2)
      have h3 := h2.trans (takeP_goes hz 12 h2.2)
      have h4 := h3.trans (stmtsP_goes hz f _ [] h3.2)
      have h5 := h4.trans (takeP_goes hz 13 h4.2)
      simp only
      split
      · have h6 := h5.trans (takeP_goes hz 8 h5.2)
        have h7 := h6.trans (takeP_goes hz 12 h6.2)
        have h8 := h7.trans (stmtsP_goes hz f _ [] h7.2)
        exact h8.trans (takeP_goes hz 13 h8.2)
      · exact h5
    · split
      · have h1 := takeP_goes hz 9 h
        have h2 := h1.trans (takeP_goes hz 20 h1.2)
        have h3 := h2.trans (takeP_goes hz 12 h2.2)
        have h4 := h3.trans (stmtsP_goes hz f _ [] h3.2)
        exact h4.trans (takeP_goes hz 13 h4.2)
      · have h1 := plainP_goes hz h
        exact h1.trans (takeP_goes hz 14 h1.2)
end
/-- A statement takes a token, where one begins. -/
theorem stmtP_more (hz : (ptAt toks (n - 1)).kind = 0) (f : Nat) {x : PS} (h : x.next < n) (hb : beginK (ptAt toks x.next).kind) : x.next + 1 ≤ (stmtP toks n (f + 1) x).2.next := by
  unfold stmtP
  split
  · rename_i hk
    have h1 := takeP_goes hz 7 h
    have e := takeP_more (n := n) hk (by omega)
    have h2 := takeP_goes hz 20 h1.2
    have h3 := h2.trans (takeP_goes hz 12 h2.2)
    have h4 := h3.trans (stmtsP_goes hz f _ [] h3.2)
    have h5 := h4.trans (takeP_goes hz 13 h4.2)
    simp only
    split
    · have h6 := h5.trans (takeP_goes hz 8 h5.2)
      have h7 := h6.trans (takeP_goes hz 12 h6.2)
      have h8 := h7.trans (stmtsP_goes hz f _ [] h7.2)
      have h9 := h8.trans (takeP_goes hz 13 h8.2)
      have := h9.1; simp only; omega
    · have := h5.1; simp only; omega
  · split
    · rename_i hk
      have h1 := takeP_goes hz 9 h
      have e := takeP_more (n := n) hk (by omega)
      have h2 := takeP_goes hz 20 h1.2
      have h3 := h2.trans (takeP_goes hz 12 h2.2)
      have h4 := h3.trans (stmtsP_goes hz f _ [] h3.2)
      have h5 := h4.trans (takeP_goes hz 13 h4.2)
      have := h5.1; simp only; omega
    · have h1 := plainP_more hz h (by unfold beginK at hb; omega)
      have h2 := takeP_goes hz 14 h1.2
      have := h2.1; simp only; omega
end

end Go.Proofs.YtgbmakpdjdigmaaGreatDoor

/- How a statement's tree lies in memory (TRep, to a depth; its lists in blocks of U), and what keeps it. No condition. -/
namespace Go.Proofs.YtgbmakpdjdigmaaGreatDoor
open Go.RowKit

def vsB (s : VS) (av bv : Value) : Array Value := #[.int .i64 s.kind, .string s.tg.text, .int .i64 s.tg.place, .string s.sr.text, .int .i64 s.sr.place, .int .i64 s.field, av, bv]
/-- A statement's cells. -/
def TRep : Nat → (Nat → Prop) → World → TS → List Value → Prop
  | 0, _, _, _, _ => False
  | d + 1, U, w, .mk s bl, c => ∃ (av bv : Value) (bcs : List (List Value)), c = (vsB s av bv).toList ∧ w.ownsRow 0 197 2 av s.args.length (nmsCells s.args) ∧ (∀ k, av.ownBlock = some k → U k) ∧
      w.ownsRow 0 201 2 bv bl.length bcs.flatten ∧ bcs.length = bl.length ∧ (∀ k, bv.ownBlock = some k → U k) ∧
      ∀ i (h : i < bl.length) (h' : i < bcs.length), ∃ (sv : Value) (css : List (List Value)), bcs[i] = [.int .i64 (bl[i].1 : Nat), sv] ∧ w.ownsRow 0 318 8 sv bl[i].2.length css.flatten ∧ css.length = bl[i].2.length ∧ (∀ k, sv.ownBlock = some k → U k) ∧
        ∀ j (g : j < bl[i].2.length) (g' : j < css.length), TRep d U w bl[i].2[j] css[j]
/-- A row of statements. -/
def TRow (d : Nat) (U : Nat → Prop) (w : World) (sv : Value) (sts : List TS) : Prop := ∃ css : List (List Value), w.ownsRow 0 318 8 sv sts.length css.flatten ∧ css.length = sts.length ∧ (∀ k, sv.ownBlock = some k → U k) ∧ ∀ j (g : j < sts.length) (g' : j < css.length), TRep d U w sts[j] css[j]
theorem TRep.only : ∀ {d : Nat} {U : Nat → Prop} {w w' : World} {t : TS} {c : List Value} {X : Nat → Prop}, TRep d U w t c → Only X w w' → (∀ k, U k → ¬ X k) → TRep d U w' t c
  | 0, _, _, _, _, _, _, h, _, _ => h.elim
  | d + 1, U, w, w', .mk s bl, c, X, h, ho, hx => by
    obtain ⟨av, bv, bcs, h1, h2, h3, h4, h5, h6, h7⟩ := h
    refine ⟨av, bv, bcs, h1, ownsRow_only h2 ho (fun k hk => hx k (h3 k hk)), h3, ownsRow_only h4 ho (fun k hk => hx k (h6 k hk)), h5, h6, fun i hi hi' => ?_⟩
    obtain ⟨sv, css, g1, g2, g3, g4, g5⟩ := h7 i hi hi'
    exact ⟨sv, css, g1, ownsRow_only g2 ho (fun k hk => hx k (g4 k hk)), g3, g4, fun j gj gj' => (g5 j gj gj').only ho hx⟩
theorem TRep.more : ∀ {d : Nat} {U U' : Nat → Prop} {w : World} {t : TS} {c : List Value}, TRep d U w t c → (∀ k, U k → U' k) → TRep d U' w t c
  | 0, _, _, _, _, _, h, _ => h.elim
  | d + 1, U, U', w, .mk s bl, c, h, hu => by
    obtain ⟨av, bv, bcs, h1, h2, h3, h4, h5, h6, h7⟩ := h
    refine ⟨av, bv, bcs, h1, h2, fun k hk => hu k (h3 k hk), h4, h5, fun k hk => hu k (h6 k hk), fun i hi hi' => ?_⟩
    obtain ⟨sv, css, g1, g2, g3, g4, g5⟩ := h7 i hi hi'
    exact ⟨sv, css, g1, g2, g3, fun k hk => hu k (g4 k hk), fun j gj gj' => (g5 j gj gj').more hu⟩
theorem TRep.up : ∀ {d : Nat} {U : Nat → Prop} {w : World} {t : TS} {c : List Value}, TRep d U w t c → TRep (d + 1) U w t c
  | 0, _, _, _, _, h => h.elim
  | d + 1, U, w, .mk s bl, c, h => by
    obtain ⟨av, bv, bcs, h1, h2, h3, h4, h5, h6, h7⟩ := h
    refine ⟨av, bv, bcs, h1, h2, h3, h4, h5, h6, fun i hi hi' => ?_⟩
    obtain ⟨sv, css, g1, g2, g3, g4, g5⟩ := h7 i hi hi'
    exact ⟨sv, css, g1, g2, g3, g4, fun j gj gj' => (g5 j gj gj').up⟩
theorem TRep.upTo {d e : Nat} {U : Nat → Prop} {w : World} {t : TS} {c : List Value} (h : TRep d U w t c) (he : d ≤ e) : TRep e U w t c := by
  induction he with
  | refl => exact h
  | step _ ih => exact ih.up
theorem TRep.length {d : Nat} {U : Nat → Prop} {w : World} {t : TS} {c : List Value} (h : TRep d U w t c) : c.length = 8 := by
  match d, t, h with
  | d + 1, .mk s bl, h =>
    obtain ⟨av, bv, bcs, h1, _⟩ := h
    rw [h1]; rfl
theorem TRow.only {d : Nat} {U : Nat → Prop} {w w' : World} {sv : Value} {sts : List TS} {X : Nat → Prop} (h : TRow d U w sv sts) (ho : Only X w w') (hx : ∀ k, U k → ¬ X k) : TRow d U w' sv sts := by
  obtain ⟨css, h1, h2, h3, h4⟩ := h
  exact ⟨css, ownsRow_only h1 ho (fun k hk => hx k (h3 k hk)), h2, h3, fun j g g' => (h4 j g g').only ho hx⟩
theorem TRow.more {d : Nat} {U U' : Nat → Prop} {w : World} {sv : Value} {sts : List TS} (h : TRow d U w sv sts) (hu : ∀ k, U k → U' k) : TRow d U' w sv sts := by
  obtain ⟨css, h1, h2, h3, h4⟩ := h
  exact ⟨css, h1, h2, fun k hk => hu k (h3 k hk), fun j g g' => (h4 j g g').more hu⟩
theorem TRow.upTo {d e : Nat} {U : Nat → Prop} {w : World} {sv : Value} {sts : List TS} (h : TRow d U w sv sts) (he : d ≤ e) : TRow e U w sv sts := by
  obtain ⟨css, h1, h2, h3, h4⟩ := h
  exact ⟨css, h1, h2, h3, fun j g g' => (h4 j g g').upTo he⟩
/-- A statement without blocks. -/
theorem TRep.flat {U : Nat → Prop} {w : World} {s : VS} {av : Value} (h : w.ownsRow 0 197 2 av s.args.length (nmsCells s.args)) (hu : ∀ k, av.ownBlock = some k → U k) : TRep 1 U w (.mk s []) (vsC s av).toList :=
  ⟨av, .slice none 0 0, [], rfl, h, hu, World.ownsRow_nil _ _ _ _, rfl, fun k hk => by simp [Value.ownBlock] at hk, fun i hi => by simp at hi⟩
/-- A statement with one block, or two. -/
theorem TRep.blocks {d : Nat} {U : Nat → Prop} {w : World} {k : Nat} {bv : Value} {bl : List (Nat × List TS)} {svs : List Value} (hl : svs.length = bl.length) (h : w.ownsRow 0 201 2 bv bl.length (((bl.zip svs).map fun p => [Value.int .i64 (p.1.1 : Nat), p.2]).flatten)) (hu : ∀ k, bv.ownBlock = some k → U k)
    (hs : ∀ i (h : i < bl.length) (h' : i < svs.length), TRow d U w svs[i] bl[i].2) : TRep (d + 1) U w (.mk (vsK k) bl) (vsB (vsK k) (.slice none 0 0) bv).toList := by
  refine ⟨.slice none 0 0, bv, (bl.zip svs).map fun p => [Value.int .i64 (p.1.1 : Nat), p.2], rfl, World.ownsRow_nil _ _ _ _, fun k hk => by simp [Value.ownBlock] at hk, h, by simp [hl], hu, fun i hi hi' => ?_⟩
  obtain ⟨css, g1, g2, g3, g4⟩ := hs i hi (by omega)
  exact ⟨svs[i]'(by omega), css, by simp, g1, g2, g3, g4⟩

end Go.Proofs.YtgbmakpdjdigmaaGreatDoor

/- The program's parser: what statement and block leave (sPost, bPost); the row of a block's statements as it grows (BR); beginsStatement. -/
namespace Go.Proofs.YtgbmakpdjdigmaaGreatDoor
open Go.RowKit

/-- What statement leaves. -/
def sPost (b g n cap : Nat) (w : World) (r : TS × PS) (e : Ending) (w' : World) : Prop :=
  ∃ (d : Nat) (U : Nat → Prop) (s : VS) (av bv : Value), e = .returned (.agg (vsB s av bv)) ∧ TRep d U w' r.1 (vsB s av bv).toList ∧ (∀ k, U k → w.heap.size ≤ k ∧ k < w'.heap.size) ∧ PaBlk b g n cap r.2 w' ∧ Only (fun k => k = b) w w'
/-- What block leaves. -/
def bPost (b g n cap : Nat) (w : World) (p : Nat) (r : List TS × PS) (e : Ending) (w' : World) : Prop :=
  ∃ (d : Nat) (U : Nat → Prop) (sv : Value), e = .returned (.agg #[.int .i64 p, sv]) ∧ TRow d U w' sv r.1 ∧ (∀ k, U k → w.heap.size ≤ k ∧ k < w'.heap.size) ∧ PaBlk b g n cap r.2 w' ∧ Only (fun k => k = b) w w'
/-- statement's contract, with so much fuel. -/
def TStmtOk (B0 : Nat) (w00 : World) (f : Nat) : Prop := ∀ (b g n cap : Nat) (x : PS) (toks : List PT) (w : World), B0 ≤ b → Below B0 w00 w → B0 ≤ w.heap.size → PaBlk b g n cap x w → PtRow g n cap toks w → x.next < n → (ptAt toks (n - 1)).kind = 0 → beginK (ptAt toks x.next).kind → 2 * (n - x.next) ≤ f →
  Calls Tryz.prog 232 #[.pointer (some ⟨b, 0, none⟩)] w fun e w' => sPost b g n cap w (stmtP toks n f x) e w'

theorem TRep.forms {d : Nat} {U : Nat → Prop} {w : World} {t : TS} {s : VS} {av bv : Value} (h : TRep d U w t (vsB s av bv).toList) : (∃ a l c, av = .slice a l c) ∧ ∃ a l c, bv = .slice a l c := by
  match d, t, h with
  | d + 1, .mk s' bl, h =>
    obtain ⟨av', bv', bcs, h1, h2, _, h4, _⟩ := h
    simp only [vsB, List.cons.injEq] at h1
    obtain ⟨a1, l1, c1, e1⟩ := owns_form h2
    obtain ⟨a2, l2, c2, e2⟩ := owns_form h4
    exact ⟨⟨a1, l1, c1, by rw [← e1]; exact h1.2.2.2.2.2.2.1⟩, ⟨a2, l2, c2, by rw [← e2]; exact h1.2.2.2.2.2.2.2.1⟩⟩

/-- The row of a block's statements as it grows; lb: the block's own box. -/
structure BR (lb d : Nat) (U : Nat → Prop) (w : World) (sv : Value) (acc : List TS) (css : List (List Value)) : Prop where
  row : w.ownsRow (lb + 1) 318 8 sv acc.length css.flatten
  len : css.length = acc.length
  rep : ∀ j (g : j < acc.length) (g' : j < css.length), TRep d U w acc[j] css[j]
  u : ∀ k, U k → lb < k ∧ k < w.heap.size
  apart : ∀ k, sv.ownBlock = some k → ¬ U k
theorem BR.nil (lb : Nat) (w : World) : BR lb 0 (fun _ => False) w (.slice none 0 0) [] [] :=
  ⟨World.ownsRow_nil _ _ _ _, rfl, fun j g => by simp at g, fun k h => h.elim, fun k h => by simp [Value.ownBlock] at h⟩
theorem BR.only {lb d : Nat} {U : Nat → Prop} {w w' : World} {sv : Value} {acc : List TS} {css : List (List Value)} {X : Nat → Prop} (h : BR lb d U w sv acc css) (ho : Only X w w') (hx : ∀ k, lb < k → k < w.heap.size → ¬ X k) : BR lb d U w' sv acc css :=
  ⟨ownsRow_only h.row ho (fun k hk => hx k (h.row.lt k hk).1 (h.row.lt k hk).2), h.len, fun j g g' => (h.rep j g g').only ho (fun k hk => hx k (h.u k hk).1 (h.u k hk).2), fun k hk => ⟨(h.u k hk).1, Nat.lt_of_lt_of_le (h.u k hk).2 ho.size⟩, h.apart⟩
theorem BR.push {lb d d1 : Nat} {U U1 : Nat → Prop} {w W w5 : World} {sv sv' u : Value} {acc : List TS} {css : List (List Value)} {t : TS} {c : List Value} (h : BR lb d U w sv acc css) (ht : TRep d1 U1 w t c) (hU : ∀ k, U1 k → lb < k ∧ k < w.heap.size ∧ ¬ sv.ownBlock = some k) (hW : Only (fun _ => False) w W)
    (hown : w5.ownsRow (lb + 1) 318 8 sv' (acc.length + 1) (css.flatten ++ c)) (hg : W.grownBy w5 sv.ownBlock) (hnew : ∀ k, sv'.ownBlock = some k → sv.ownBlock = some k ∨ w.heap.size ≤ k) :
    BR lb (max d d1) (fun k => U k ∨ U1 k) (w5.setCell ⟨lb, 1, none⟩ u) sv' (acc ++ [t]) (css ++ [c]) := by
  have ho5 : Only (fun k => sv.ownBlock = some k) w w5 := Only.grown (hW.mono (fun _ _ q => q.elim)) hg (fun k hk => .inl hk)
  have hs := (Only.refl (fun k => k = lb) w5).set_at 1 u
  have hl := h.len
  refine ⟨?_, by simp [hl], ?_, ?_, ?_⟩
  · have := ownsRow_only hown hs (fun k hk => by have := (hown.lt k hk).1; omega)
    simpa using this
  · intro j g1 g2
    by_cases hj : j < acc.length
    · rw [List.getElem_append_left hj, List.getElem_append_left (by omega)]
      exact ((((h.rep j hj (by omega)).only ho5 (fun k hk q => h.apart k q hk)).only hs (fun k hk => by have := (h.u k hk).1; omega)).more (fun k hk => .inl hk)).upTo (Nat.le_max_left _ _)
    · have e : j = acc.length := by simp at g1; omega
      subst e
      rw [List.getElem_append_right (by omega), List.getElem_append_right (by omega)]
      simp only [Nat.sub_self, hl, List.getElem_cons_zero]
      exact (((ht.only ho5 (fun k hk => (hU k hk).2.2)).only hs (fun k hk => by have := (hU k hk).1; omega)).more (fun k hk => .inr hk)).upTo (Nat.le_max_right _ _)
  · intro k hk
    have h5 := ho5.size
    have h6 := hs.size
    rcases hk with hk | hk
    · exact ⟨(h.u k hk).1, by have := (h.u k hk).2; omega⟩
    · exact ⟨(hU k hk).1, by have := (hU k hk).2.1; omega⟩
  · intro k hk q
    rcases hnew k hk with e | e
    · rcases q with q | q
      · exact h.apart k e q
      · exact (hU k q).2.2 e
    · rcases q with q | q
      · have := (h.u k q).2; omega
      · have := (hU k q).2.1; omega

set_option maxRecDepth 100000 in
set_option maxHeartbeats 400000 in
theorem begins_any (b g n cap : Nat) (x : PS) (toks : List PT) (w : World) (hr : PaBlk b g n cap x w) (ht : PtRow g n cap toks w) (hc : x.next < n) :
    Calls Tryz.prog 231 #[.pointer (some ⟨b, 0, none⟩)] w fun e w' => e = .returned (.bool (decide (beginK (ptAt toks x.next).kind))) ∧ Only (fun _ => False) w w' := by
  obtain ⟨k, hk⟩ : ∃ k, (ptAt toks x.next).kind = k := ⟨_, rfl⟩
  rw [hk]
  obtain ⟨v, hv⟩ : ∃ v, decide (beginK k) = v := ⟨_, rfl⟩
  rw [hv]
  have HK := hide1 hk
  have HV := hide1 hv
  clear hk hv
  go_enter Tryz.func231, Tryz.ntmps231
  go_wp2_with (go_at_call 173; refine (kind_any b g n cap x toks _ hr ht hc).mono ?_; rw [HK.out]; rintro e w1 ⟨rfl, ho1⟩)
  all_goals
    go_ret
    refine ⟨sret_bool ?_, ho1⟩
    rw [← HV.out]
    symm
    simp only [beq_iff_eq, beq_eq_false_iff_ne, ne_eq] at *
    first
      | (rw [decide_eq_true_iff]; unfold beginK; omega)
      | (rw [decide_eq_false_iff_not]; unfold beginK; omega)

end Go.Proofs.YtgbmakpdjdigmaaGreatDoor

/- RdI RdM: told at each. -/
import Derived.Test.YtgbmakpdjdigmaaGreatDoorG23

/- Plain mathematics: what the reference's reader.stmt and block answer (rStmt, rStmts); and how the list of statements lies in memory (StRow). No condition. -/
namespace Go.Proofs.YtgbmakpdjdigmaaGreatDoor
open Go.RowKit

def zFS (inn : Nat) (b : Int) : FS := ⟨0, tkNo, tkNo, 0, [], 0, [], [], b, b, inn⟩
abbrev ifL : List UInt8 := [105, 102]
abbrev whileL : List UInt8 := [119, 104, 105, 108, 101]
abbrev elseL : List UInt8 := [101, 108, 115, 101]
abbrev varL : List UInt8 := [118, 97, 114]
abbrev returnL : List UInt8 := [114, 101, 116, 117, 114, 110]

/-- A statement without blocks, up to its semicolon. -/
def plainS (toks : List Tk) (inn : Nat) (x : St) : FS × St :=
  if wordOf (tokAt toks x.cur) = varL then
    let y := getS toks 1 (eatS toks varL x)
    ({ zFS inn (-1) with kind := 1, p := y.1 }, y.2)
  else if wordOf (tokAt toks x.cur) = returnL then
    let y := getS toks 1 (eatS toks returnL x)
    ({ zFS inn (-1) with kind := 11, q := y.1 }, y.2)
  else if wordOf (tokAt toks x.cur) = [42] then
    let y := getS toks 1 (eatS toks [42] x)
    let z := getS toks 1 (eatS toks [61] y.2)
    ({ zFS inn (-1) with kind := 10, p := y.1, q := z.1 }, z.2)
  else
    let y := getS toks 1 x
    valS toks (eatS toks [61] y.2) { zFS inn (-1) with p := y.1 }

mutual
def rStmts (toks : List Tk) : Nat → Nat → St → List FS → List Nat → List Nat × St × List FS
  | 0, _, x, fs, out => (out, x, fs)
  | f + 1, inn, x, fs, out =>
    if x.bad ≠ none ∨ nextB x.bad (tokAt toks x.cur) [125] = true then (out, x, fs)
    else rStmts toks f inn (rStmt toks f inn x fs).2.1 (rStmt toks f inn x fs).2.2 (out ++ [(rStmt toks f inn x fs).1])
def rStmt (toks : List Tk) : Nat → Nat → St → List FS → Nat × St × List FS
  | 0, _, x, fs => (fs.length, x, fs)
  | f + 1, inn, x, fs =>
    if wordOf (tokAt toks x.cur) = ifL ∨ wordOf (tokAt toks x.cur) = whileL then
      let x2 := eatS toks [63] (eatS toks (wordOf (tokAt toks x.cur)) x)
      let r := rStmts toks f inn (eatS toks [123] x2) (fs ++ [zFS 0 0]) []
      let x3 := eatS toks [125] r.2.1
      let s : FS := { zFS inn (-1) with kind := 13, br := (tokAt toks x2.cur).pos, body := r.1 }
      if wordOf (tokAt toks x.cur) = ifL then
        if nextB x3.bad (tokAt toks x3.cur) elseL = true then
          let x4 := eatS toks elseL x3
          let r2 := rStmts toks f inn (eatS toks [123] x4) r.2.2 []
          (fs.length, eatS toks [125] r2.2.1, r2.2.2.set fs.length { s with kind := 12, br2 := (tokAt toks x4.cur).pos, other := r2.1 })
        else (fs.length, x3, r.2.2.set fs.length { s with kind := 12 })
      else (fs.length, x3, r.2.2.set fs.length s)
    else
      let y := plainS toks inn x
      (fs.length, eatS toks [59] y.2, (fs ++ [zFS 0 0]).set fs.length y.1)
end

/-- A list of numbers in new memory. -/
def IntsAt (B : Nat) (w : World) (v : Value) (l : List Nat) : Prop := w.ownsRow B 3 1 v l.length (l.map fun i : Nat => Value.int .i64 (i : Int))
def TksAt (B : Nat) (w : World) (v : Value) (l : List Tk) : Prop := w.ownsRow B 114 3 v l.length (tksCells l)
/-- A statement's cells; its lists lie in blocks of U. -/
def FsRep (B : Nat) (U : Nat → Prop) (w : World) (c : List Value) (s : FS) : Prop :=
  ∃ av bv ov, c = (fsA s av bv ov).toList ∧ TksAt B w av s.args ∧ IntsAt B w bv s.body ∧ IntsAt B w ov s.other ∧ ∀ k, (av.ownBlock = some k ∨ bv.ownBlock = some k ∨ ov.ownBlock = some k) → U k
/-- The list of statements. -/
def StRow (B : Nat) (U : Nat → Prop) (w : World) (sv : Value) (fs : List FS) : Prop :=
  ∃ cs : List (List Value), w.ownsRow B 183 15 sv fs.length cs.flatten ∧ cs.length = fs.length ∧ ∀ i (h : i < cs.length) (h' : i < fs.length), FsRep B U w cs[i] fs[i]

theorem FsRep.only {B : Nat} {U : Nat → Prop} {w w' : World} {c : List Value} {s : FS} {X : Nat → Prop} (h : FsRep B U w c s) (ho : Only X w w') (hx : ∀ k cs t fz, X k → w.heap[k]? = some (.cells cs t fz) → t ≠ 3 ∧ t ≠ 114) : FsRep B U w' c s := by
  obtain ⟨av, bv, ov, hc, ha, hb, hov, hu⟩ := h
  exact ⟨av, bv, ov, hc, ownsRow_typed ha ho (fun k cs fz hk q => (hx k cs _ fz hk q).2 rfl), ownsRow_typed hb ho (fun k cs fz hk q => (hx k cs _ fz hk q).1 rfl), ownsRow_typed hov ho (fun k cs fz hk q => (hx k cs _ fz hk q).1 rfl), hu⟩
theorem FsRep.onlyU {B : Nat} {U : Nat → Prop} {w w' : World} {c : List Value} {s : FS} {X : Nat → Prop} (h : FsRep B U w c s) (ho : Only X w w') (hx : ∀ k, U k → ¬ X k) : FsRep B U w' c s := by
  obtain ⟨av, bv, ov, hc, ha, hb, hov, hu⟩ := h
  exact ⟨av, bv, ov, hc, ownsRow_only ha ho (fun k hk => hx k (hu k (.inl hk))), ownsRow_only hb ho (fun k hk => hx k (hu k (.inr (.inl hk)))), ownsRow_only hov ho (fun k hk => hx k (hu k (.inr (.inr hk)))), hu⟩
theorem FsRep.more {B : Nat} {U U' : Nat → Prop} {w : World} {c : List Value} {s : FS} (h : FsRep B U w c s) (hu : ∀ k, U k → U' k) : FsRep B U' w c s := by
  obtain ⟨av, bv, ov, hc, ha, hb, hov, h4⟩ := h
  exact ⟨av, bv, ov, hc, ha, hb, hov, fun k hk => hu k (h4 k hk)⟩
theorem fsA_length (s : FS) (av bv ov : Value) : (fsA s av bv ov).toList.length = 15 := rfl
theorem FsRep.length {B : Nat} {U : Nat → Prop} {w : World} {c : List Value} {s : FS} (h : FsRep B U w c s) : c.length = 15 := by
  obtain ⟨av, bv, ov, rfl, _⟩ := h; rfl

end Go.Proofs.YtgbmakpdjdigmaaGreatDoor

/- Plain mathematics: the reference's reader goes on: each part of it leaves the place within the tokens, and a statement without a fault takes a token at least (rStmt_prog, rStmts_prog). No condition. -/
namespace Go.Proofs.YtgbmakpdjdigmaaGreatDoor
open Go.RowKit

/-- From x on to y: no place is gone back; no more than one place and one call more; without a fault at the end there was none before, and k tokens were taken at least. -/
def RGoes (k : Nat) (x y : St) : Prop := x.cur ≤ y.cur ∧ x.pl ≤ y.pl ∧ y.pl ≤ x.pl + 1 ∧ x.ca ≤ y.ca ∧ y.ca ≤ x.ca + 1 ∧ (y.bad = none → x.bad = none ∧ x.cur + k ≤ y.cur)
/-- The same, with as many places and calls as before. -/
def Goes0 (k : Nat) (x y : St) : Prop := x.cur ≤ y.cur ∧ y.pl = x.pl ∧ y.ca = x.ca ∧ (y.bad = none → x.bad = none ∧ x.cur + k ≤ y.cur)
theorem Goes0.trans {k l : Nat} {x y z : St} (h : Goes0 k x y) (q : Goes0 l y z) : Goes0 (k + l) x z :=
  ⟨by have := h.1; have := q.1; omega, by rw [q.2.1, h.2.1], by rw [q.2.2.1, h.2.2.1], fun e => by have a := q.2.2.2 e; have b := h.2.2.2 a.1; exact ⟨b.1, by omega⟩⟩
theorem Goes0.one {k : Nat} {x y : St} (h : Goes0 k x y) : RGoes k x y := ⟨h.1, by rw [h.2.1]; omega, by rw [h.2.1]; omega, by rw [h.2.2.1]; omega, by rw [h.2.2.1]; omega, h.2.2.2⟩
theorem RGoes.behind {k l : Nat} {x y z : St} (h : Goes0 k x y) (q : RGoes l y z) : RGoes (k + l) x z := by
  obtain ⟨h1, h2, h3, h4⟩ := h
  obtain ⟨q1, q2, q3, q4, q5, q6⟩ := q
  exact ⟨by omega, by omega, by omega, by omega, by omega, fun e => by have a := q6 e; have b := h4 a.1; exact ⟨b.1, by omega⟩⟩
theorem RGoes.ahead {k l : Nat} {x y z : St} (h : RGoes k x y) (q : Goes0 l y z) : RGoes (k + l) x z := by
  obtain ⟨h1, h2, h3, h4, h5, h6⟩ := h
  obtain ⟨q1, q2, q3, q4⟩ := q
  exact ⟨by omega, by omega, by omega, by omega, by omega, fun e => by have a := q4 e; have b := h6 a.1; exact ⟨b.1, by omega⟩⟩
theorem RGoes.less {k l : Nat} {x y : St} (h : RGoes k x y) (hl : l ≤ k) : RGoes l x y := ⟨h.1, h.2.1, h.2.2.1, h.2.2.2.1, h.2.2.2.2.1, fun e => by have := h.2.2.2.2.2 e; exact ⟨this.1, by omega⟩⟩

theorem failO_some (bad : Option Nat) (p : Nat) : failO bad p ≠ none := by cases bad <;> simp [failO]
theorem eatS_goes (toks : List Tk) (L : List UInt8) (x : St) : Goes0 1 x (eatS toks L x) := by
  unfold eatS eatR
  split
  · rename_i h
    refine ⟨by simp, rfl, rfl, fun e => ⟨e, Nat.le_refl _⟩⟩
  · exact ⟨Nat.le_refl _, rfl, rfl, fun e => absurd e (failO_some _ _)⟩
theorem getS_goes (toks : List Tk) (k : Nat) (x : St) : Goes0 1 x (getS toks k x).2 := by
  unfold getS getR
  split
  · refine ⟨by simp, rfl, rfl, fun e => ⟨e, Nat.le_refl _⟩⟩
  · exact ⟨Nat.le_refl _, rfl, rfl, fun e => absurd e (failO_some _ _)⟩
theorem lstR_goes (toks : List Tk) : ∀ (f cur : Nat) (bad : Option Nat) (acc : List Tk), cur ≤ (lstR toks f cur bad acc).2.1 ∧ (lstR toks f cur bad acc).2.2 = bad
  | 0, cur, bad, acc => by unfold lstR; exact ⟨Nat.le_refl _, rfl⟩
  | f + 1, cur, bad, acc => by
    unfold lstR
    split
    · have := lstR_goes toks f (cur + 1) bad (acc ++ [tokAt toks cur])
      exact ⟨by omega, this.2⟩
    · exact ⟨Nat.le_refl _, rfl⟩
theorem listS_goes (toks : List Tk) (x : St) : Goes0 1 x (listS toks x).2 := by
  have h := lstR_goes toks toks.length x.cur x.bad []
  have e := eatS_goes toks [41] ⟨(lstR toks toks.length x.cur x.bad []).2.1, (lstR toks toks.length x.cur x.bad []).2.2, x.pl, x.ca⟩
  obtain ⟨e1, e2, e3, e4⟩ := e
  refine ⟨Nat.le_trans h.1 e1, rfl, rfl, fun q => ?_⟩
  have := e4 q
  exact ⟨by rw [← h.2]; exact this.1, by have := this.2; simp only at this; exact Nat.le_trans (by omega) this⟩
theorem valS_goes (toks : List Tk) (x : St) (s : FS) : RGoes 1 x (valS toks x s).2 := by
  have E := eatS_goes toks
  have G := getS_goes toks
  have I := listS_goes toks
  unfold valS
  split
  · have := E [110, 101, 119] x
    obtain ⟨e1, e2, e3, e4⟩ := this
    exact ⟨e1, by simp only; omega, by simp only; omega, by simp only; omega, by simp only; omega, e4⟩
  · split
    · simp only
      split
      · exact ((((E _ _).trans (G _ _)).trans ((E _ _).trans (G _ _))).one).less (by omega)
      · exact (((E _ _).trans (G _ _)).one).less (by omega)
    · split
      · exact (((E _ _).trans (G _ _)).one).less (by omega)
      · split
        · exact (((E _ _).trans (G _ _)).one).less (by omega)
        · split
          · have A := ((E [40] x).trans (E [42] _)).trans ((G 1 (eatS toks [42] (eatS toks [40] x))).trans ((E [41] _).trans (E [40] _)))
            have Z := I ⟨(eatS toks [40] (eatS toks [41] (getS toks 1 (eatS toks [42] (eatS toks [40] x))).2)).cur, (eatS toks [40] (eatS toks [41] (getS toks 1 (eatS toks [42] (eatS toks [40] x))).2)).bad, (eatS toks [40] (eatS toks [41] (getS toks 1 (eatS toks [42] (eatS toks [40] x))).2)).pl, (eatS toks [40] (eatS toks [41] (getS toks 1 (eatS toks [42] (eatS toks [40] x))).2)).ca + 1⟩
            obtain ⟨a1, a2, a3, a4⟩ := A
            obtain ⟨z1, z2, z3, z4⟩ := Z
            simp only at z1 z2 z3 z4
            refine ⟨by simp only; omega, by simp only; omega, by simp only; omega, by simp only; omega, by simp only; omega, fun q => ?_⟩
            have b := z4 q
            have c := a4 b.1
            exact ⟨c.1, by simp only; omega⟩
          · simp only
            split
            · exact (((G _ _).trans ((E _ _).trans (I _))).one).less (by omega)
            · exact ((G _ _).one).less (by omega)
theorem plainS_goes (toks : List Tk) (inn : Nat) (x : St) : RGoes 1 x (plainS toks inn x).2 := by
  have E := eatS_goes toks
  have G := getS_goes toks
  unfold plainS
  split
  · exact (((E _ _).trans (G _ _)).one).less (by omega)
  · split
    · exact (((E _ _).trans (G _ _)).one).less (by omega)
    · split
      · exact ((((E _ _).trans (G _ _)).trans ((E _ _).trans (G _ _))).one).less (by omega)
      · exact (RGoes.behind ((G _ _).trans (E _ _)) (valS_goes toks _ _)).less (by omega)

end Go.Proofs.YtgbmakpdjdigmaaGreatDoor

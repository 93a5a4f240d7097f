/- RdR RdS: told at each. -/
import Derived.Test.YtgbmakpdjdigmaaGreatDoorG38
import Derived.Test.YtgbmakpdjdigmaaGreatDoorG39

/- The reference's parse: its functions and statements in new memory, and the place of the first token that cannot stand where it does. -/
namespace Go.Proofs.YtgbmakpdjdigmaaGreatDoor
open Go.RowKit

def fnR (toks : List Tk) (f k : Nat) (x : St) (fs : List FS) : RF × St × List FS :=
  let x1 := eatS toks [102, 110] x
  let y := getS toks 1 x1
  let x3 := eatS toks [40] y.2
  let z := listS toks x3
  let r := rStmts toks f k (eatS toks [123] z.2) fs []
  (⟨y.1, z.1, r.1, (tokAt toks z.2.cur).pos, []⟩, eatS toks [125] r.2.1, r.2.2)
def fnsR (toks : List Tk) (F : Nat) : Nat → St → List FS → List RF → List RF × St × List FS
  | 0, x, fs, acc => (acc, x, fs)
  | m + 1, x, fs, acc => if x.bad = none ∧ (acc = [] ∨ (tokAt toks x.cur).sort ≠ 0) then fnsR toks F m (fnR toks F acc.length x fs).2.1 (fnR toks F acc.length x fs).2.2 (acc ++ [(fnR toks F acc.length x fs).1]) else (acc, x, fs)
abbrev rf0 : Array Value := #[.string { data := #[] }, .int .i64 0, .int .i64 0, .slice none 0 0, .slice none 0 0, .int .i64 0, .slice none 0 0]
theorem Tryz.infoRF : (Tryz.prog.info? 116).map (fun i => (i.zero, i.size, i.bytes)) = some (some (.agg rf0), 7, 112) := by kernel_rfl
theorem rfA_one (f : RF) (a b c : Option Addr) (l1 l2 l3 c1 c2 c3 : Nat) : ∀ u ∈ (rfA f (.slice a l1 c1) (.slice b l2 c2) (.slice c l3 c3)).toList, u.oneCell' = true := by
  intro u hu
  simp [rfA] at hu
  rcases hu with rfl | rfl | rfl | rfl | rfl | rfl | rfl <;> rfl
/-- What the walk of parse stands in. -/
structure PF (rb pb g n cap B : Nat) (U : Nat → Prop) (toks : List Tk) (fv sv : Value) (x : St) (fs : List FS) (acc : List RF) (w : World) : Prop where
  rd : RdBlk rb pb g n cap x.cur x.bad w
  tk : TokRow g n cap toks w
  pr : PrBlk pb fv sv x.pl x.ca w
  st : StRow B U w sv fs
  fn : FnRow B w fv acc
  ul : ∀ k, U k → k < w.heap.size
section
variable {rb pb g n cap B : Nat} {U : Nat → Prop} {toks : List Tk} {fv sv : Value} {x : St} {fs : List FS} {acc : List RF} {w w' : World}
theorem PF.nes (h : PF rb pb g n cap B U toks fv sv x fs acc w) : g ≠ rb ∧ pb ≠ rb ∧ g ≠ pb := ⟨h.tk.ne h.rd (by decide), h.pr.box.ne h.rd.box (by decide), h.tk.ne h.pr (by decide)⟩
theorem PF.fne (h : PF rb pb g n cap B U toks fv sv x fs acc w) : ∀ k, fv.ownBlock = some k → k ≠ rb ∧ k ≠ pb := by
  intro k hk
  obtain ⟨cs, hrow, _⟩ := h.fn
  exact ⟨own_ne hrow h.rd (by decide) k hk, own_ne hrow h.pr (by decide) k hk⟩
theorem PF.still (h : PF rb pb g n cap B U toks fv sv x fs acc w) (ho : Only (fun _ => False) w w') : PF rb pb g n cap B U toks fv sv x fs acc w' :=
  ⟨h.rd.only ho (fun q => q), h.tk.only ho (fun q => q), h.pr.box.only ho (fun q => q), h.st.still ho, h.fn.still ho, fun k hk => Nat.lt_of_lt_of_le (h.ul k hk) ho.size⟩
theorem PF.call {c : Nat} {b : Option Nat} (h : PF rb pb g n cap B U toks fv sv x fs acc w) (ho : Only (fun k => k = rb) w w') (hr : RdBlk rb pb g n cap c b w') : PF rb pb g n cap B U toks fv sv ⟨c, b, x.pl, x.ca⟩ fs acc w' := by
  have hn := h.nes
  refine ⟨hr, h.tk.only ho hn.1, h.pr.box.only ho hn.2.1, h.st.rb h.rd ho, h.fn.only ho (fun k hk => (h.fne k hk).1) ?_, fun k hk => Nat.lt_of_lt_of_le (h.ul k hk) ho.size⟩
  intro k cs t fz hk hc
  have hk : k = rb := hk
  subst hk
  have hr0 : w.heap[k]? = _ := h.rd
  rw [hc] at hr0
  simp only [Option.some.injEq, Obj.cells.injEq] at hr0
  rw [hr0.2.1]; decide
theorem PF.eat {L : List UInt8} {x' : St} (h : PF rb pb g n cap B U toks fv sv x fs acc w) (hx : eatS toks L x = x') (ho : Only (fun k => k = rb) w w') (hr : RdBlk rb pb g n cap (eatR toks x.cur x.bad L).1 (eatR toks x.cur x.bad L).2 w') : PF rb pb g n cap B U toks fv sv x' fs acc w' := by subst hx; exact h.call ho hr
theorem PF.get {k : Nat} {q : Tk} {x' : St} (h : PF rb pb g n cap B U toks fv sv x fs acc w) (hx : getS toks k x = (q, x')) (ho : Only (fun k => k = rb) w w') (hr : RdBlk rb pb g n cap (getR toks x.cur x.bad k).2.1 (getR toks x.cur x.bad k).2.2 w') : PF rb pb g n cap B U toks fv sv x' fs acc w' := by
  have e : x' = ⟨(getR toks x.cur x.bad k).2.1, (getR toks x.cur x.bad k).2.2, x.pl, x.ca⟩ := (congrArg Prod.snd hx).symm
  subst e; exact h.call ho hr
theorem PF.list {q : List Tk} {x' : St} (h : PF rb pb g n cap B U toks fv sv x fs acc w) (hx : listS toks x = (q, x')) (ho : Only (fun k => k = rb) w w') (hr : RdBlk rb pb g n cap (listR toks x.cur x.bad).2.1 (listR toks x.cur x.bad).2.2 w') : PF rb pb g n cap B U toks fv sv x' fs acc w' := by
  have e : x' = ⟨(listR toks x.cur x.bad).2.1, (listR toks x.cur x.bad).2.2, x.pl, x.ca⟩ := (congrArg Prod.snd hx).symm
  subst e; exact h.call ho hr
/-- A box of the call's own is written. -/
theorem PF.setF {fb i : Nat} {cs : Array Value} {v : Value} (h : PF rb pb g n cap B U toks fv sv x fs acc w) (hb : Box fb cs 116 w) (hf : ∀ k, fv.ownBlock = some k → k ≠ fb) : PF rb pb g n cap B U toks fv sv x fs acc (w.setCell ⟨fb, i, none⟩ v) := by
  have ho := (Only.refl (fun k => k = fb) w).set_at i v
  have ty : ∀ (k : Nat) (ds : Array Value) (t : TypeId) (fz : Nat × Nat), k = fb → w.heap[k]? = some (.cells ds t fz) → t = 116 := by
    intro k ds t fz hk hc
    subst hk
    have hb' : w.heap[k]? = _ := hb
    rw [hc] at hb'
    simp only [Option.some.injEq, Obj.cells.injEq] at hb'
    exact hb'.2.1
  refine ⟨h.rd.only ho (h.rd.box.ne hb (by decide)), h.tk.only ho (h.tk.ne hb (by decide)), h.pr.box.only ho (h.pr.box.ne hb (by decide)), h.st.only ho (fun k hk => ?_) (fun k ds t fz hk hc => by rw [ty k ds t fz hk hc]; decide), h.fn.only ho (fun k hk => hf k hk) (fun k ds t fz hk hc => by rw [ty k ds t fz hk hc]; decide), fun k hk => Nat.lt_of_lt_of_le (h.ul k hk) ho.size⟩
  obtain ⟨cs', hrow, _⟩ := h.st
  exact own_ne hrow hb (by decide) k hk
/-- Behind a block. -/
theorem PF.block {sv' : Value} {U' : Nat → Prop} {x' : St} {fs' : List FS} (h : PF rb pb g n cap B U toks fv sv x fs acc w) (hr : RdBlk rb pb g n cap x'.cur x'.bad w') (ht : TokRow g n cap toks w') (hp : PrBlk pb fv sv' x'.pl x'.ca w') (hs : StRow B U' w' sv' fs') (hf : Frm rb pb sv sv' w w') : PF rb pb g n cap B (fun k => U' k ∧ k < w'.heap.size) toks fv sv' x' fs' acc w' := by
  have hsr := h.st
  obtain ⟨cs, hrow, _⟩ := hsr
  refine ⟨hr, ht, hp, hs.below, h.fn.only hf.only (fun k hk q => ?_) (fun k ds t fz hk hc => ?_), fun k hk => hk.2⟩
  · rcases q with q | q | q
    · exact (h.fne k hk).1 q
    · exact (h.fne k hk).2 q
    · obtain ⟨cs2, hrow2, _⟩ := h.fn
      exact own_two hrow2 hrow (by decide) k hk q
  · rcases hk with hk | hk | hk
    · subst hk
      have hr0 : w.heap[k]? = _ := h.rd
      rw [hc] at hr0
      simp only [Option.some.injEq, Obj.cells.injEq] at hr0
      rw [hr0.2.1]; decide
    · subst hk
      have hr0 : w.heap[k]? = _ := h.pr
      rw [hc] at hr0
      simp only [Option.some.injEq, Obj.cells.injEq] at hr0
      rw [hr0.2.1]; decide
    · rcases hrow.2 with ⟨q', _⟩ | ⟨g', cap', cur', hv, _, hh, _⟩
      · rw [q'] at hk; simp [Value.ownBlock] at hk
      · rw [hv] at hk
        simp [Value.ownBlock] at hk
        subst hk
        rw [hc] at hh
        simp only [Option.some.injEq, Obj.cells.injEq] at hh
        rw [hh.2.1]; decide
end
/-- One function more. -/
theorem FnRow.push {B : Nat} {w W w5 : World} {fv fv' : Value} {fns : List RF} {f : RF} {tv bv : Value} (h : FnRow B w fv fns) (hW : Only (fun _ => False) w W) (ht : TksAt B w tv f.takes) (hb : IntsAt B w bv f.body) (hv : f.vars = [])
    (hown : w5.ownsRow B 116 7 fv' (fns.length + 1) (( h.choose).flatten ++ (rfA f tv bv nilS).toList)) (hg : W.grownBy w5 fv.ownBlock) : FnRow B w5 fv' (fns ++ [f]) ∧ Only (fun k => fv.ownBlock = some k) w w5 := by
  have hsp := h.choose_spec
  generalize h.choose = cs at hown hsp
  obtain ⟨hrow, hl, hrep, hap⟩ := hsp
  have ho5 : Only (fun k => fv.ownBlock = some k) w w5 := Only.grown (hW.mono (fun _ _ q => q.elim)) hg (fun k hk => .inl hk)
  have ty : ∀ (k : Nat) (ds : Array Value) (t : TypeId) (fz : Nat × Nat), fv.ownBlock = some k → w.heap[k]? = some (.cells ds t fz) → t ≠ 3 ∧ t ≠ 114 ∧ t ≠ 9 := by
    intro k ds t fz hk hc
    rcases hrow.2 with ⟨q', _⟩ | ⟨g', cap', cur', hv, _, hh, _⟩
    · rw [q'] at hk; simp [Value.ownBlock] at hk
    · rw [hv] at hk
      simp [Value.ownBlock] at hk
      subst hk
      rw [hc] at hh
      simp only [Option.some.injEq, Obj.cells.injEq] at hh
      rw [hh.2.1]; decide
  refine ⟨⟨cs ++ [(rfA f tv bv nilS).toList], ?_, by simp [hl], ?_, ?_⟩, ho5⟩
  · rw [List.flatten_append, List.length_append]
    simpa using hown
  · intro i h1 h2
    by_cases hi : i < fns.length
    · rw [List.getElem_append_left (by omega), List.getElem_append_left hi]
      exact (hrep i (by omega) hi).only ho5 ty
    · have e : i = fns.length := by simp at h2; omega
      subst e
      rw [List.getElem_append_right (by omega), List.getElem_append_right (by omega)]
      simp only [Nat.sub_self, hl, List.getElem_cons_zero]
      refine RFRep.only ⟨tv, bv, nilS, rfl, ht, hb, ?_⟩ ho5 ty
      rw [hv]
      exact World.ownsRow_nil _ _ _ _
  · intro i j hi hj hne k hk q
    simp only [List.length_append, List.length_singleton] at hi hj
    by_cases hi2 : i < cs.length
    · rw [List.getElem_append_left hi2] at hk
      by_cases hj2 : j < cs.length
      · rw [List.getElem_append_left hj2] at q
        exact hap i j hi2 hj2 hne k hk q
      · rw [List.getElem_append_right (by omega)] at q
        simp [varV, rfA, Value.ownBlock, show j - cs.length = 0 by omega] at q
    · rw [List.getElem_append_right (by omega)] at hk
      simp [varV, rfA, Value.ownBlock, show i - cs.length = 0 by omega] at hk

end Go.Proofs.YtgbmakpdjdigmaaGreatDoor

/- The reference's parse: the walk. -/
namespace Go.Proofs.YtgbmakpdjdigmaaGreatDoor
open Go.RowKit

theorem fnR_prog {toks : List Tk} {n : Nat} (hz : (tokAt toks (n - 1)).sort = 0) (f k : Nat) (x : St) (fs : List FS) (h : Inv n x fs.length) : Inv n (fnR toks f k x fs).2.1 (fnR toks f k x fs).2.2.length ∧ ((fnR toks f k x fs).2.1.bad = none → x.cur < (fnR toks f k x fs).2.1.cur) ∧ x.cur ≤ (fnR toks f k x fs).2.1.cur := by
  have E := eatS_goes toks
  have C : ∀ (L : List UInt8) (x : St), x.cur < n → (eatS toks L x).cur < n := fun L x h => eatS_cur rfl hz h
  unfold fnR
  simp only
  have g1 := (E [102, 110] x).trans (getS_goes toks 1 (eatS toks [102, 110] x))
  have c1 : (getS toks 1 (eatS toks [102, 110] x)).2.cur < n := getS_cur (q := (getS toks 1 (eatS toks [102, 110] x)).1) rfl (by decide) hz (C _ _ h.1)
  generalize (getS toks 1 (eatS toks [102, 110] x)).2 = y at *
  have g2 := g1.trans ((E [40] y).trans (listS_goes toks (eatS toks [40] y)))
  have c2 : (listS toks (eatS toks [40] y)).2.cur < n := listS_cur (q := (listS toks (eatS toks [40] y)).1) rfl hz (C _ _ c1)
  generalize (listS toks (eatS toks [40] y)).2 = z at *
  have g3 := g2.trans (E [123] z)
  have i3 := h.goes0 g3 (C [123] z c2)
  obtain ⟨a1, a2, a3⟩ := (both_prog hz f).1 k _ fs [] i3
  generalize rStmts toks f k (eatS toks [123] z) fs [] = r at *
  have g4 := E [125] r.2.1
  have i4 := a1.goes0 g4 (C [125] _ a1.1)
  refine ⟨i4, fun e => ?_, ?_⟩
  · have := g4.2.2.2 e
    have := g3.1
    omega
  · have := g4.1
    have := g3.1
    omega
theorem toks_frm {U : Nat → Prop} {rb pb g n cap c : Nat} {b : Option Nat} {B B' pl ca : Nat} {fv sv sv' v : Value} {l : List Tk} {fs : List FS} {w w' : World} (h : TksAt B' w v l) (hr : RdBlk rb pb g n cap c b w) (hp : PrBlk pb fv sv pl ca w) (hst : StRow B U w sv fs) (hf : Frm rb pb sv sv' w w') : TksAt B' w' v l := by
  obtain ⟨cs, hrow, _⟩ := hst
  refine ownsRow_typed h hf.only (fun k ds fz hk => ?_)
  rcases hk with hk | hk | hk
  · exact typ_ne hr.box (by decide) k ds fz hk
  · exact typ_ne hp.box (by decide) k ds fz hk
  · exact own_typ hrow (by decide) k ds fz hk
theorem Only.new {X : Nat → Prop} {a w w' : World} (h : Only (fun _ => False) a w) (k : Only X w w') (hx : ∀ k, X k → a.heap.size ≤ k) : Only (fun _ => False) a w' := ((h.mono (fun _ _ q => q.elim)).trans k).mono (fun i hi q => by have := hx i q; omega)
theorem PF.grow {rb pb g n cap B : Nat} {U : Nat → Prop} {toks : List Tk} {fv fv' sv : Value} {x : St} {fs : List FS} {acc acc' : List RF} {w w5 : World} (h : PF rb pb g n cap B U toks fv sv x fs acc w) (hF : FnRow B w5 fv' acc') (ho : Only (fun k => fv.ownBlock = some k) w w5) (hnew : ∀ k, fv'.ownBlock = some k → fv.ownBlock = some k ∨ w.heap.size ≤ k) : PF rb pb g n cap B U toks fv' sv x fs acc' (w5.setCell ⟨pb, 0, none⟩ fv') := by
  have hset := (Only.refl (fun k => k = pb) w5).set_at 0 fv'
  have hn := h.nes
  have hfn := h.fn
  obtain ⟨cs, hrow, _⟩ := hfn
  have ty : ∀ (k : Nat) (ds : Array Value) (t : TypeId) (fz : Nat × Nat), fv.ownBlock = some k → w.heap[k]? = some (.cells ds t fz) → t = 116 := by
    intro k ds t fz hk hc
    rcases hrow.2 with ⟨q', _⟩ | ⟨g', cap', cur', hv, _, hh, _⟩
    · rw [q'] at hk; simp [Value.ownBlock] at hk
    · rw [hv] at hk
      simp [Value.ownBlock] at hk
      subst hk
      rw [hc] at hh
      simp only [Option.some.injEq, Obj.cells.injEq] at hh
      exact hh.2.1
  have hp5 : PrBlk pb fv sv x.pl x.ca w5 := h.pr.box.only ho (fun q => (h.fne pb q).2 rfl)
  have typ : ∀ (k : Nat) (ds : Array Value) (t : TypeId) (fz : Nat × Nat), k = pb → w5.heap[k]? = some (.cells ds t fz) → t = 112 := by
    intro k ds t fz hk hc
    subst hk
    have hb' : w5.heap[k]? = _ := hp5
    rw [hc] at hb'
    simp only [Option.some.injEq, Obj.cells.injEq] at hb'
    exact hb'.2.1
  have lp := blk_lt h.pr
  have ht5 : TokRow g n cap toks w5 := h.tk.only ho (fun q => own_two hrow h.tk.1 (by decide) g q rfl)
  refine ⟨(h.rd.only ho (fun q => (h.fne rb q).1 rfl)).only hset (fun q => hn.2.1 q.symm), ht5.only hset hn.2.2, ?_, (h.st.only ho (fun k hk q => ?_) (fun k ds t fz hk hc => by rw [ty k ds t fz hk hc]; decide)).only hset (fun k hk q => ?_) (fun k ds t fz hk hc => by rw [typ k ds t fz hk hc]; decide), hF.only hset (fun k hk q => ?_) (fun k ds t fz hk hc => by rw [typ k ds t fz hk hc]; decide), fun k hk => ?_⟩
  · have := hp5.box.set 0 fv'
    simpa [PrBlk, Box] using this
  · obtain ⟨cs', hrow', _⟩ := h.st
    exact own_two hrow' hrow (by decide) k hk q
  · obtain ⟨cs', hrow', _⟩ := h.st
    exact own_ne hrow' h.pr (by decide) k hk q
  · have q : k = pb := q
    subst q
    rcases hnew k hk with q | q
    · exact (h.fne k q).2 rfl
    · omega
  · have := h.ul k hk
    have := ho.size
    have := hset.size
    omega
/-- What parse leaves. -/
def prPost (w : World) (r : List RF × St × List FS) (e : Ending) (w' : World) : Prop :=
  ∃ (fv sv : Value) (U : Nat → Prop), e = .returned (.tuple #[.pointer (some ⟨w.heap.size, 0, none⟩), .int .i64 (badI r.2.1.bad)]) ∧ PrBlk w.heap.size fv sv r.2.1.pl r.2.1.ca w' ∧ StRow w.heap.size U w' sv r.2.2 ∧ FnRow w.heap.size w' fv r.1 ∧ Only (fun _ => False) w w'

set_option maxRecDepth 100000 in
set_option maxHeartbeats 4000000 in
theorem refparse_any (g n cap : Nat) (toks : List Tk) (w : World) (ht : TokRow g n cap toks w) (hn0 : 0 < n) (hz : (tokAt toks (n - 1)).sort = 0) :
    Calls Tryz.prog 45 #[.slice (some ⟨g, 0, none⟩) n cap] w fun e w' => prPost w (fnsR toks (2 * n) n ⟨0, none, 0, 0⟩ [] []) e w' := by
  obtain ⟨i0, hi, hz0, hz1, hz2⟩ := info_parts Tryz.infoRF
  have hn := ht.2.2
  have lg : g < w.heap.size := (ht.1.lt g rfl).2
  generalize hV : fnsR toks (2 * n) n ⟨0, none, 0, 0⟩ [] [] = V
  have HV := hide1 hV
  have HZ := hide1 hz
  have P0 : Hid (PF (w.heap.size + 1) w.heap.size g n cap w.heap.size (fun _ => False) toks (.slice none 0 0) (.slice none 0 0) ⟨0, none, 0, 0⟩ [] [] ((w.alloc (.cells #[.slice none 0 0, .slice none 0 0, .int .i64 0, .int .i64 0] 112)).alloc (.cells #[.slice (some ⟨g, 0, none⟩) n cap, .int .i64 0, .int .i64 (-1), .pointer (some ⟨w.heap.size, 0, none⟩)] 174))) := by
    refine ⟨?_, ht.only (((Only.refl (fun _ => False) w).alloc _).alloc _) (fun q => q), ?_, ⟨[], World.ownsRow_nil _ _ _ _, rfl, fun i h => by simp at h⟩, ⟨[], World.ownsRow_nil _ _ _ _, rfl, fun i h => by simp at h, fun i j h => by simp at h⟩, fun _ h => h.elim⟩
    · have := Box.new (w.alloc (.cells #[.slice none 0 0, .slice none 0 0, .int .i64 0, .int .i64 0] 112)) #[.slice (some ⟨g, 0, none⟩) n cap, .int .i64 0, .int .i64 (-1), .pointer (some ⟨w.heap.size, 0, none⟩)] 174
      simpa [RdBlk, Box, badI] using this
    · exact (Box.new w _ _).alloc _
  have O0 := hide1 (((Only.refl (fun _ => False) w).alloc (.cells #[.slice none 0 0, .slice none 0 0, .int .i64 0, .int .i64 0] 112)).alloc (.cells #[.slice (some ⟨g, 0, none⟩) n cap, .int .i64 0, .int .i64 (-1), .pointer (some ⟨w.heap.size, 0, none⟩)] 174))
  have I0 : Hid (Inv n ⟨0, none, 0, 0⟩ 0) := ⟨hn0, Nat.zero_le _, Nat.zero_le _, Nat.zero_le _, fun _ => ⟨Nat.le_refl _, Nat.le_refl _, Nat.le_refl _⟩⟩
  clear ht hz hV
  go_enter Tryz.func45, Tryz.ntmps45
  go_wp2
  go_loopw [] (fun wr => ∃ (x : St) (fs : List FS) (acc : List RF) (fv sv : Value) (U : Nat → Prop) (m : Nat), Hid (PF (w.heap.size + 1) w.heap.size g n cap w.heap.size U toks fv sv x fs acc wr) ∧ Hid (Only (fun _ => False) w wr) ∧ Hid (Inv n x fs.length) ∧ Hid (x.bad = none → n - x.cur ≤ m ∧ acc.length ≤ x.cur) ∧ acc.length ≤ n ∧ Hid (fnsR toks (2 * n) m x fs acc = V)) (fun wr => rdMeas (w.heap.size + 1) n wr)
  case atStart => exact ⟨⟨0, none, 0, 0⟩, [], [], _, _, _, n, P0, O0, I0, fun _ => ⟨by simp, by simp⟩, by simp, HV⟩
  case round =>
    clear P0 O0 I0 HV
    obtain ⟨x, fs, acc, fv, sv, U, m, HP, HO, HI, HB, hacc, HC⟩ := hrel
    have hc := HI.out.1
    obtain ⟨t0, t1, t2⟩ := HP.out.tk.cells hc
    have r0 := HP.out.rd.box.cell 0
    have r1 := HP.out.rd.box.cell 1
    have r2 := HP.out.rd.box.cell 2
    have p0 := HP.out.pr.box.cell 0
    simp at r0 r1 r2 p0
    have lr := blk_lt HP.out.rd
    have lp := blk_lt HP.out.pr
    have lgr : g < wr.heap.size := (HP.out.tk.1.lt g rfl).2
    obtain ⟨fa, fl, fc, rfl⟩ : ∃ a l c, fv = .slice a l c := by obtain ⟨_, h, _⟩ := HP.out.fn; exact owns_form h
    have hfl : fl = acc.length := by obtain ⟨_, h, _⟩ := HP.out.fn; exact own_len h
    subst hfl
    have HM := hide1 (rdMeas_of HP.out.rd)
    by_cases hgo : x.bad = none ∧ (acc = [] ∨ (tokAt toks x.cur).sort ≠ 0)
    · obtain ⟨hb, hor⟩ := hgo
      have hbm := HB.out hb
      obtain ⟨m', hm'⟩ : ∃ m', m = m' + 1 := ⟨m - 1, by omega⟩
      subst hm'
      obtain ⟨f1, x9, fs9, h9⟩ : ∃ a b c, fnR toks (2 * n) acc.length x fs = (a, b, c) := ⟨_, _, _, rfl⟩
      have HC2 : Hid (fnsR toks (2 * n) m' x9 fs9 (acc ++ [f1]) = V) := by
        have := HC.out
        rw [fnsR, if_pos ⟨hb, hor⟩, h9] at this
        exact this
      have hpg := fnR_prog HZ.out (2 * n) acc.length x fs HI.out
      rw [h9] at hpg
      have HPG := hide1 hpg
      have H9 := hide1 h9
      have HBN := hide1 hb
      have h0 : ((acc.length : Int) == 0) = true ∨ (((acc.length : Int) == 0) = false ∧ (((tokAt toks x.cur).sort : Int) != 0) = true) := by
        cases acc with
        | nil => left; rfl
        | cons a l =>
          right
          refine ⟨by simp; omega, ?_⟩
          rcases hor with q | q
          · cases q
          · simp; omega
      rw [hb] at r2
      simp only [badI] at r2
      clear HC hpg h9 hb hor
      rcases h0 with h0 | ⟨h0, h0'⟩
      all_goals
        go_wp2_with fail
        go_quiet (fail)
        go_wp2_with fail
        have PQ := hide1 (HP.out.still ((Only.refl (fun _ => False) wr).drewN nq))
        have OQ : Hid (Only (fun _ => False) w (wr.drewN nq)) := HO.out.drewN nq
        clear t0 t1 t2 r0 r1 r2 p0 lr lp lgr HP HO
        generalize wr.drewN nq = wq at PQ OQ ⊢
        obtain ⟨x1, hx1⟩ : ∃ z, eatS toks [102, 110] x = z := ⟨_, rfl⟩
        refine (eat_l (w.heap.size + 1) w.heap.size g n cap x.cur x.bad toks _ [102, 110] (by simp) wq PQ.out.rd PQ.out.tk hc).mono ?_
        rintro e w1 ⟨rfl, hr1, ho1⟩
        have P1 := hide1 (PQ.out.eat hx1 ho1 hr1)
        have O1 := hide1 (Only.new OQ.out ho1 (fun k hk => by omega))
        have hc1 : x1.cur < n := eatS_cur hx1 HZ.out hc
        have X1 := hide1 hx1
        clear hr1 ho1 hx1 PQ OQ
        go_wp2_with fail
        have P2 := hide1 (P1.out.still ((Only.refl (fun _ => False) w1).alloc (.cells rf0 116)))
        have B2 := hide1 (Box.new w1 rf0 116)
        have O2 := hide1 (O1.out.alloc (.cells rf0 116))
        have hfb : ∀ k, Value.ownBlock (.slice fa acc.length fc) = some k → k ≠ w1.heap.size := fun k hk => by obtain ⟨_, h, _⟩ := P1.out.fn; have := (h.lt k hk).2; omega
        have hfr : w1.heap.size ≠ w.heap.size + 1 := by have := blk_lt P1.out.rd; omega
        have hz1' := O1.out.size
        obtain ⟨q2, x2, hx2⟩ : ∃ q z, getS toks 1 x1 = (q, z) := ⟨_, _, rfl⟩
        refine (get_any (w.heap.size + 1) w.heap.size g n cap x1.cur 1 x1.bad toks _ P2.out.rd P2.out.tk hc1).mono ?_
        rw [show (getR toks x1.cur x1.bad 1).1 = q2 from congrArg Prod.fst hx2]
        rintro e w2 ⟨rfl, hr2, ho2⟩
        have P3 := hide1 (P2.out.get hx2 ho2 hr2)
        have B3 := hide1 (B2.out.only ho2 hfr)
        have O3 := hide1 (Only.new O2.out ho2 (fun k hk => by omega))
        have hc2 : x2.cur < n := getS_cur hx2 (by decide) HZ.out hc1
        have X2 := hide1 hx2
        clear hr2 ho2 hx2 P1 P2 B2 O1 O2
        unfold tkV
        have f0 := B3.out.cell 0
        have f1' := B3.out.cell 1
        have f2 := B3.out.cell 2
        have ff := B3.out.frozen
        have lf := blk_lt B3.out
        simp only [List.getElem?_toArray, List.getElem?_cons_zero, List.getElem?_cons_succ] at f0 f1' f2
        go_wp2_with fail
        have P4 := hide1 (((P3.out.setF (i := 0) (v := .string q2.text) B3.out hfb).setF (i := 1) (v := .int .i64 q2.pos) (B3.out.set 0 _) hfb).setF (i := 2) (v := .int .i64 q2.sort) ((B3.out.set 0 _).set 1 _) hfb)
        have B4 : Hid (Box w1.heap.size #[.string q2.text, .int .i64 q2.pos, .int .i64 q2.sort, .slice none 0 0, .slice none 0 0, .int .i64 0, .slice none 0 0] 116 (((w2.setCell ⟨w1.heap.size, 0, none⟩ (.string q2.text)).setCell ⟨w1.heap.size, 1, none⟩ (.int .i64 q2.pos)).setCell ⟨w1.heap.size, 2, none⟩ (.int .i64 q2.sort))) := by
          have := ((B3.out.set 0 (.string q2.text)).set 1 (.int .i64 q2.pos)).set 2 (.int .i64 q2.sort)
          exact hide1 (by simpa using this)
        have O4 := hide1 (((O3.out.set_new (b := w1.heap.size) 0 (.string q2.text) hz1').set_new (b := w1.heap.size) 1 (.int .i64 q2.pos) hz1').set_new (b := w1.heap.size) 2 (.int .i64 q2.sort) hz1')
        clear P3 B3 O3 f0 f1' f2 ff lf
        generalize ((w2.setCell ⟨w1.heap.size, 0, none⟩ (.string q2.text)).setCell ⟨w1.heap.size, 1, none⟩ (.int .i64 q2.pos)).setCell ⟨w1.heap.size, 2, none⟩ (.int .i64 q2.sort) = w3 at P4 B4 O4 ⊢
        obtain ⟨x3, hx3⟩ : ∃ z, eatS toks [40] x2 = z := ⟨_, rfl⟩
        refine (eat_l (w.heap.size + 1) w.heap.size g n cap x2.cur x2.bad toks _ [40] (by simp) w3 P4.out.rd P4.out.tk hc2).mono ?_
        rintro e w4 ⟨rfl, hr4, ho4⟩
        have P5 := hide1 (P4.out.eat hx3 ho4 hr4)
        have B5 := hide1 (B4.out.only ho4 hfr)
        have O5 := hide1 (Only.new O4.out ho4 (fun k hk => by omega))
        have hc3 : x3.cur < n := eatS_cur hx3 HZ.out hc2
        have X3 := hide1 hx3
        clear hr4 ho4 hx3 P4 B4 O4
        go_wp2_with fail
        obtain ⟨q4, x4, hx4⟩ : ∃ q z, listS toks x3 = (q, z) := ⟨_, _, rfl⟩
        refine (list_any (w.heap.size + 1) w.heap.size g n cap x3.cur x3.bad toks _ P5.out.rd P5.out.tk hc3 HZ.out).mono ?_
        rw [show (listR toks x3.cur x3.bad).1 = q4 from congrArg Prod.fst hx4]
        rintro e w5 ⟨v4, rfl, hown, hr5, ho5⟩
        have T5 := hide1 (ownsRow_base hown (B' := w.heap.size) (by have := O5.out.size; omega))
        obtain ⟨ta, tl, tc, rfl⟩ := owns_form hown
        have P6 := hide1 (P5.out.list hx4 ho5 hr5)
        have B6 := hide1 (B5.out.only ho5 hfr)
        have O6 := hide1 (Only.new O5.out ho5 (fun k hk => by omega))
        have hc4 : x4.cur < n := listS_cur hx4 HZ.out hc3
        have X4 := hide1 hx4
        clear hr5 ho5 hx4 hown P5 B5 O5
        have f3 := B6.out.cell 3
        have ff := B6.out.frozen
        have lf := blk_lt B6.out
        have p0 := P6.out.pr.box.cell 0
        have lp := blk_lt P6.out.pr
        simp only [List.getElem?_toArray, List.getElem?_cons_zero, List.getElem?_cons_succ] at f3 p0
        have hpf : w.heap.size ≠ w1.heap.size := P6.out.pr.box.ne B6.out (by decide)
        go_wp2_with fail
        have P7 := hide1 (P6.out.setF (i := 3) (v := .slice ta tl tc) B6.out hfb)
        have B7 : Hid (Box w1.heap.size #[.string q2.text, .int .i64 q2.pos, .int .i64 q2.sort, .slice ta tl tc, .slice none 0 0, .int .i64 0, .slice none 0 0] 116 (w5.setCell ⟨w1.heap.size, 3, none⟩ (.slice ta tl tc))) := by
          have := B6.out.set 3 (.slice ta tl tc)
          exact hide1 (by simpa using this)
        have O7 := hide1 (O6.out.set_new (b := w1.heap.size) 3 (.slice ta tl tc) hz1')
        have T7 : Hid (TksAt w.heap.size (w5.setCell ⟨w1.heap.size, 3, none⟩ (.slice ta tl tc)) (.slice ta tl tc) q4) := ownsRow_typed T5.out ((Only.refl (fun k => k = w1.heap.size) w5).set_at 3 _) (fun k ds fz hk => typ_ne B6.out (by decide) k ds fz hk)
        clear P6 B6 O6 T5 f3 ff lf p0 lp
        generalize w5.setCell ⟨w1.heap.size, 3, none⟩ (.slice ta tl tc) = w6 at P7 B7 O7 T7 ⊢
        have G4 : Goes0 4 x x4 := by
          have q := (eatS_goes toks [102, 110] x).trans (getS_goes toks 1 (eatS toks [102, 110] x))
          rw [X1.out, show (getS toks 1 x1).2 = x2 by rw [X2.out]] at q
          have q2 := q.trans ((eatS_goes toks [40] x2).trans (listS_goes toks (eatS toks [40] x2)))
          rw [X3.out, show (listS toks x3).2 = x4 by rw [X4.out]] at q2
          exact q2
        have HI4 := hide1 (HI.out.goes0 G4 hc4)
        obtain ⟨ro, rx, rf, hrr⟩ : ∃ a b c, rStmts toks (2 * n) acc.length (eatS toks [123] x4) fs [] = (a, b, c) := ⟨_, _, _, rfl⟩
        obtain ⟨x5, hx5⟩ : ∃ z, eatS toks [125] rx = z := ⟨_, rfl⟩
        obtain ⟨p5, hp5⟩ : ∃ z, (tokAt toks x4.cur).pos = z := ⟨_, rfl⟩
        have hF : f1 = ⟨q2, q4, ro, p5, []⟩ ∧ x9 = x5 ∧ fs9 = rf := by
          have := H9.out
          unfold fnR at this
          simp only [X1.out, X2.out, X3.out, X4.out, hrr, hx5, hp5, Prod.mk.injEq] at this
          exact ⟨this.1.symm, this.2.1.symm, this.2.2.symm⟩
        obtain ⟨rfl, rfl, rfl⟩ := hF
        clear G4 HI H9
        refine (block_any (2 * n) (fun k _ => stmt_all k) (w.heap.size + 1) w.heap.size g n cap w.heap.size acc.length U toks (.slice fa acc.length fc) sv x4 fs w6 P7.out.rd P7.out.tk P7.out.pr P7.out.st P7.out.ul O7.out.size HZ.out HI4.out (fun _ => by omega)).mono ?_
        rw [hrr, hp5]
        simp only [hx5]
        rintro e w7 ⟨sv2, bv, U2, hu1, hu2, hu3, rfl, hbi, hr7, ht7, hpp7, hst7, hfr7⟩
        have P8 := hide1 (P7.out.block (x' := x9) hr7 ht7 hpp7 hst7 hfr7)
        have T8 := hide1 (toks_frm T7.out P7.out.rd P7.out.pr P7.out.st hfr7)
        have I8 := hide1 (ownsRow_base hbi (B' := w.heap.size) O7.out.size)
        have B8 := hide1 (B7.out.only hfr7.only (by
          rintro (q | q | q)
          · exact hfr q
          · exact hpf q.symm
          · obtain ⟨_, h, _⟩ := P7.out.st
            exact own_ne h B7.out (by decide) _ q rfl))
        have O8 := hide1 (Only.new O7.out hfr7.only (fun k hk => by
          rcases hk with q | q | q
          · omega
          · omega
          · obtain ⟨_, h, _⟩ := P7.out.st
            exact (h.lt k q).1))
        obtain ⟨ba, bl, bc, rfl⟩ := owns_form hbi
        clear hu1 hu2 hu3 hbi hr7 ht7 hpp7 hst7 hfr7 P7 B7 O7 T7 hrr hx5 hp5 HI4
        have f4 := B8.out.cell 4
        have f5 := B8.out.cell 5
        have ff := B8.out.frozen
        have lf := blk_lt B8.out
        simp only [List.getElem?_toArray, List.getElem?_cons_zero, List.getElem?_cons_succ] at f4 f5
        go_wp2_with fail
        have P9 := hide1 ((P8.out.setF (i := 5) (v := .int .i64 p5) B8.out hfb).setF (i := 4) (v := .slice ba bl bc) (B8.out.set 5 _) hfb)
        have B9 : Hid (Box w1.heap.size #[.string q2.text, .int .i64 q2.pos, .int .i64 q2.sort, .slice ta tl tc, .slice ba bl bc, .int .i64 p5, .slice none 0 0] 116 ((w7.setCell ⟨w1.heap.size, 5, none⟩ (.int .i64 p5)).setCell ⟨w1.heap.size, 4, none⟩ (.slice ba bl bc))) := by
          have := (B8.out.set 5 (.int .i64 p5)).set 4 (.slice ba bl bc)
          exact hide1 (by simpa using this)
        have O9 := hide1 ((O8.out.set_new (b := w1.heap.size) 5 (.int .i64 p5) hz1').set_new (b := w1.heap.size) 4 (.slice ba bl bc) hz1')
        have T9 : Hid (TksAt w.heap.size ((w7.setCell ⟨w1.heap.size, 5, none⟩ (.int .i64 p5)).setCell ⟨w1.heap.size, 4, none⟩ (.slice ba bl bc)) (.slice ta tl tc) q4) := ownsRow_typed T8.out (((Only.refl (fun k => k = w1.heap.size) w7).set_at 5 _).set_at 4 _) (fun k ds fz hk => typ_ne B8.out (by decide) k ds fz hk)
        have I9 : Hid (IntsAt w.heap.size ((w7.setCell ⟨w1.heap.size, 5, none⟩ (.int .i64 p5)).setCell ⟨w1.heap.size, 4, none⟩ (.slice ba bl bc)) (.slice ba bl bc) ro) := ownsRow_typed I8.out (((Only.refl (fun k => k = w1.heap.size) w7).set_at 5 _).set_at 4 _) (fun k ds fz hk => typ_ne B8.out (by decide) k ds fz hk)
        clear P8 B8 O8 T8 I8 f4 f5 ff lf
        generalize (w7.setCell ⟨w1.heap.size, 5, none⟩ (.int .i64 p5)).setCell ⟨w1.heap.size, 4, none⟩ (.slice ba bl bc) = w8 at P9 B9 O9 T9 I9 ⊢
        have hrow := P9.out.fn.choose_spec.1
        have f0 := B9.out.cell 0
        have f1 := B9.out.cell 1
        have f2 := B9.out.cell 2
        have f3 := B9.out.cell 3
        have f4 := B9.out.cell 4
        have f5 := B9.out.cell 5
        have f6 := B9.out.cell 6
        have lf := blk_lt B9.out
        have p0 := P9.out.pr.box.cell 0
        have pf := P9.out.pr.box.frozen 0
        have lp := blk_lt P9.out.pr
        simp only [List.getElem?_toArray, List.getElem?_cons_zero, List.getElem?_cons_succ] at f0 f1 f2 f3 f4 f5 f6 p0
        have NP := hide1 (fun k hk => (P9.out.fne k hk).2)
        have hsz9 := O9.out.size
        go_region_law (refine step_append_own rfl _ _ 109 rfl w.heap.size 116 i0 (.agg rf0) 7 112 Tryz.underlying109 hi hz0 hz1 hz2 rfl (by decide) _ _ _ rfl (hrow.alloc _) ⟨w8.heap.size, 0, none⟩ 1 1 (rfA ⟨q2, q4, ro, p5, []⟩ (.slice ta tl tc) (.slice ba bl bc) nilS).toList rfl rfl (cells_new rfl _ _) (rfA_one _ _ _ _ _ _ _ _ _ _) (by decide) (by unfold maxLen; omega) (by omega) (by simp; omega) ?_; intro v' w9 hown' hgrow9 hnew9; have q1 : w9.cell? ⟨w.heap.size, 0, none⟩ = some (.slice fa acc.length fc) := (World.cell?_of_block (hgrow9.block w.heap.size (by simp; omega) (fun h => NP.out _ h.symm rfl))).trans (by rw [← p0]; exact World.cell?_of_block (Below.heap_alloc _ _ _ lp)); have qf : w9.frozen? ⟨w.heap.size, 0, none⟩ = false := (World.frozen?_of_block (hgrow9.block w.heap.size (by simp; omega) (fun h => NP.out _ h.symm rfl))).trans (by rw [← pf]; exact World.frozen?_of_block (Below.heap_alloc _ _ _ lp)); obtain ⟨va', vl', vc', rfl⟩ := owns_form hown')
        all_goals
          have hgr : (w8.alloc (.cells (rfA ⟨q2, q4, ro, p5, []⟩ (.slice ta tl tc) (.slice ba bl bc) nilS) 116)).drew.grownBy w9 (Value.ownBlock (.slice fa acc.length fc)) := hgrow9
          have hne9 : ∀ k, Value.ownBlock (.slice va' vl' vc') = some k → Value.ownBlock (.slice fa acc.length fc) = some k ∨ w8.heap.size ≤ k := fun k hk => (hnew9 k hk).imp (fun q => q) (fun q => by simp at q; omega)
          have FP := FnRow.push (f := ⟨q2, q4, ro, p5, []⟩) P9.out.fn (((Only.refl _ w8).alloc _).drew) T9.out I9.out rfl hown' hgr
          have PX := hide1 (P9.out.grow FP.1 FP.2 hne9)
          have OX := hide1 ((Only.new O9.out FP.2 (fun k hk => (hrow.lt k hk).1)).set_new (b := w.heap.size) 0 (.slice va' vl' vc') (Nat.le_refl _))
          clear hgrow9 hnew9 hown' hgr FP
          go_wp2_with fail
          refine ⟨⟨x9, fs9, acc ++ [⟨q2, q4, ro, p5, []⟩], _, _, _, m', PX, OX, HPG.out.1, fun e => ?_, ?_, HC2⟩, ?_⟩
          · have := HPG.out.2.1 e
            simp only [List.length_append, List.length_singleton]
            omega
          · simp only [List.length_append, List.length_singleton]
            omega
          · rw [rdMeas_of PX.out.rd, HM.out, if_pos HBN.out]
            have g1 := HPG.out.2.2
            have g2 := HPG.out.2.1
            have g3 := HPG.out.1.1
            split
            · rename_i e
              have := g2 e
              omega
            · omega
    · have hv : V = (acc, x, fs) := by
        rw [← HC.out]
        cases m with
        | zero => rw [fnsR]
        | succ m => rw [fnsR, if_neg hgo]
      subst hv
      have hcs : (∃ b : Nat, x.bad = some b) ∨ (x.bad = none ∧ ((acc.length : Int) == 0) = false ∧ (((tokAt toks x.cur).sort : Int) != 0) = false) := by
        cases hx : x.bad with
        | some b => exact .inl ⟨b, rfl⟩
        | none =>
          right
          refine ⟨rfl, ?_, ?_⟩
          · cases acc with
            | nil => exact absurd ⟨hx, .inl rfl⟩ hgo
            | cons a l => simp; omega
          · by_cases hq : (tokAt toks x.cur).sort = 0
            · simp [hq]
            · exact absurd ⟨hx, .inr hq⟩ hgo
      clear HC hgo
      rcases hcs with ⟨b, hb⟩ | ⟨hb, h0, h1⟩
      · have hbb : decide ((b : Int) < 0) = false := by simp
        rw [hb] at r2
        simp only [badI] at r2
        have HBB := hide1 hb
        clear hb
        go_wp2_with fail
        go_quiet (fail)
        go_wp2_with fail
        go_quiet (fail)
        go_wp2
        go_ret2
        exact ⟨_, _, _, by rw [HBB.out]; rfl, (HP.out.still (by repeat (first | exact Only.refl _ _ | refine Only.drew ?_ | refine Only.drewN ?_ _ | refine Only.alloc ?_ _))).pr, (HP.out.still (by repeat (first | exact Only.refl _ _ | refine Only.drew ?_ | refine Only.drewN ?_ _ | refine Only.alloc ?_ _))).st, (HP.out.still (by repeat (first | exact Only.refl _ _ | refine Only.drew ?_ | refine Only.drewN ?_ _ | refine Only.alloc ?_ _))).fn, HO.out.tr0 (by repeat (first | exact Only.refl _ _ | refine Only.drew ?_ | refine Only.drewN ?_ _ | refine Only.alloc ?_ _))⟩
      · rw [hb] at r2
        simp only [badI] at r2
        have HBB := hide1 hb
        clear hb
        go_wp2_with fail
        go_quiet (fail)
        go_wp2_with fail
        go_quiet (fail)
        go_wp2
        go_ret2
        exact ⟨_, _, _, by rw [HBB.out]; rfl, (HP.out.still (by repeat (first | exact Only.refl _ _ | refine Only.drew ?_ | refine Only.drewN ?_ _ | refine Only.alloc ?_ _))).pr, (HP.out.still (by repeat (first | exact Only.refl _ _ | refine Only.drew ?_ | refine Only.drewN ?_ _ | refine Only.alloc ?_ _))).st, (HP.out.still (by repeat (first | exact Only.refl _ _ | refine Only.drew ?_ | refine Only.drewN ?_ _ | refine Only.alloc ?_ _))).fn, HO.out.tr0 (by repeat (first | exact Only.refl _ _ | refine Only.drew ?_ | refine Only.drewN ?_ _ | refine Only.alloc ?_ _))⟩

end Go.Proofs.YtgbmakpdjdigmaaGreatDoor

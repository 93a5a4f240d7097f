/- RdJ RdK RdK2: told at each. -/
import Derived.Test.YtgbmakpdjdigmaaGreatDoorG24
import Derived.Test.YtgbmakpdjdigmaaGreatDoorG29
import Derived.Deep.RegionLaw
import Derived.Deep.DeepCutAuto

/- The memory that the walk of the reference's reader.stmt stands in (SF), and small facts on it. No condition. -/
namespace Go.Proofs.YtgbmakpdjdigmaaGreatDoor
open Go.RowKit

theorem Tryz.infoSt : (Tryz.prog.info? 183).map (fun i => (i.zero, i.size, i.bytes)) = some (some (.agg zS), 15, 184) := by kernel_rfl

theorem zS_one : ∀ u ∈ zS.toList, u.oneCell' = true := by
  intro u hu
  simp at hu
  rcases hu with rfl | rfl | rfl | rfl | rfl | rfl | rfl | rfl | rfl <;> rfl

theorem StRow.only {B : Nat} {U : Nat → Prop} {w w' : World} {sv : Value} {fs : List FS} {X : Nat → Prop} (h : StRow B U w sv fs) (ho : Only X w w') (hs : ∀ k, sv.ownBlock = some k → ¬ X k) (hx : ∀ k cs t fz, X k → w.heap[k]? = some (.cells cs t fz) → t ≠ 3 ∧ t ≠ 114) : StRow B U w' sv fs := by
  obtain ⟨cs, hrow, hl, hrep⟩ := h
  exact ⟨cs, ownsRow_only hrow ho hs, hl, fun i h1 h2 => (hrep i h1 h2).only ho hx⟩

theorem StRow.onlyU {B : Nat} {U : Nat → Prop} {w w' : World} {sv : Value} {fs : List FS} {X : Nat → Prop} (h : StRow B U w sv fs) (ho : Only X w w') (hs : ∀ k, sv.ownBlock = some k → ¬ X k) (hx : ∀ k, U k → ¬ X k) : StRow B U w' sv fs := by
  obtain ⟨cs, hrow, hl, hrep⟩ := h
  exact ⟨cs, ownsRow_only hrow ho hs, hl, fun i h1 h2 => (hrep i h1 h2).onlyU ho hx⟩
theorem StRow.more {B : Nat} {U U' : Nat → Prop} {w : World} {sv : Value} {fs : List FS} (h : StRow B U w sv fs) (hu : ∀ k, U k → U' k) : StRow B U' w sv fs := by
  obtain ⟨cs, hrow, hl, hrep⟩ := h
  exact ⟨cs, hrow, hl, fun i h1 h2 => (hrep i h1 h2).more hu⟩

/-- What the walk of stmt stands in. -/
structure SF (rb pb sb g n cap B : Nat) (U : Nat → Prop) (toks : List Tk) (fv sv : Value) (x : St) (fs : List FS) (sc : Array Value) (w : World) : Prop where
  rd : RdBlk rb pb g n cap x.cur x.bad w
  tk : TokRow g n cap toks w
  pr : PrBlk pb fv sv x.pl x.ca w
  sx : Box sb sc 183 w
  st : StRow B U w sv fs
  nb : ∀ k, sv.ownBlock = some k → k ≠ sb
section
variable {rb pb sb g n cap B : Nat} {U : Nat → Prop} {toks : List Tk} {fv sv : Value} {x : St} {fs : List FS} {sc : Array Value} {w w' : World}
theorem SF.nes (h : SF rb pb sb g n cap B U toks fv sv x fs sc w) : g ≠ rb ∧ pb ≠ rb ∧ sb ≠ rb ∧ g ≠ pb ∧ sb ≠ pb ∧ g ≠ sb :=
  ⟨h.tk.ne h.rd (by decide), h.pr.box.ne h.rd.box (by decide), h.sx.ne h.rd.box (by decide), h.tk.ne h.pr (by decide), h.sx.ne h.pr.box (by decide), h.tk.ne h.sx (by decide)⟩
theorem SF.svne (h : SF rb pb sb g n cap B U toks fv sv x fs sc w) : ∀ k, sv.ownBlock = some k → k ≠ rb ∧ k ≠ pb ∧ k ≠ sb := by
  intro k hk
  obtain ⟨cs, hrow, _⟩ := h.st
  exact ⟨own_ne hrow h.rd (by decide) k hk, own_ne hrow h.pr (by decide) k hk, h.nb k hk⟩
theorem SF.call {c : Nat} {b : Option Nat} (h : SF rb pb sb g n cap B U toks fv sv x fs sc w) (ho : Only (fun k => k = rb) w w') (hr : RdBlk rb pb g n cap c b w') : SF rb pb sb g n cap B U toks fv sv ⟨c, b, x.pl, x.ca⟩ fs sc w' := by
  have hn := h.nes
  refine ⟨hr, h.tk.only ho hn.1, h.pr.box.only ho hn.2.1, h.sx.only ho hn.2.2.1, h.st.only ho (fun k hk => (h.svne k hk).1) ?_, h.nb⟩
  intro k cs t fz hk hc
  have hk : k = rb := hk
  subst hk
  have hr0 : w.heap[k]? = _ := h.rd
  rw [hc] at hr0
  simp only [Option.some.injEq, Obj.cells.injEq] at hr0
  rw [hr0.2.1]; decide
theorem SF.quiet (h : SF rb pb sb g n cap B U toks fv sv x fs sc w) (ho : Only (fun _ => False) w w') : SF rb pb sb g n cap B U toks fv sv x fs sc w' :=
  ⟨h.rd.only ho (fun q => q), h.tk.only ho (fun q => q), h.pr.box.only ho (fun q => q), h.sx.only ho (fun q => q), h.st.only ho (fun _ _ q => q) (fun _ _ _ _ q => q.elim), h.nb⟩
theorem SF.setS (h : SF rb pb sb g n cap B U toks fv sv x fs sc w) (i : Nat) (u : Value) : SF rb pb sb g n cap B U toks fv sv x fs (sc.setIfInBounds i u) (w.setCell ⟨sb, i, none⟩ u) := by
  have hn := h.nes
  have ho := (Only.refl (fun k => k = sb) w).set_at i u
  refine ⟨h.rd.box.setOther i u hn.2.2.1.symm, h.tk.only ho hn.2.2.2.2.2, h.pr.box.setOther i u hn.2.2.2.2.1.symm, h.sx.set i u, h.st.only ho (fun k hk => (h.svne k hk).2.2) ?_, h.nb⟩
  intro k cs t fz hk hc
  have hk : k = sb := hk
  subst hk
  have hr0 : w.heap[k]? = _ := h.sx
  rw [hc] at hr0
  simp only [Option.some.injEq, Obj.cells.injEq] at hr0
  rw [hr0.2.1]; decide
theorem SF.eat {L : List UInt8} {x' : St} (h : SF rb pb sb g n cap B U toks fv sv x fs sc w) (hx : eatS toks L x = x') (ho : Only (fun k => k = rb) w w') (hr : RdBlk rb pb g n cap (eatR toks x.cur x.bad L).1 (eatR toks x.cur x.bad L).2 w') : SF rb pb sb g n cap B U toks fv sv x' fs sc w' := by subst hx; exact h.call ho hr
theorem SF.get {k : Nat} {q : Tk} {x' : St} (h : SF rb pb sb g n cap B U toks fv sv x fs sc w) (hx : getS toks k x = (q, x')) (ho : Only (fun k => k = rb) w w') (hr : RdBlk rb pb g n cap (getR toks x.cur x.bad k).2.1 (getR toks x.cur x.bad k).2.2 w') : SF rb pb sb g n cap B U toks fv sv x' fs sc w' := by
  have e : x' = ⟨(getR toks x.cur x.bad k).2.1, (getR toks x.cur x.bad k).2.2, x.pl, x.ca⟩ := (congrArg Prod.snd hx).symm
  subst e; exact h.call ho hr
end

/-- What a call within stmt may turn: the reader, the program, its list of statements; where that list lies behind it. -/
structure Frm (rb pb : Nat) (sv sv' : Value) (w w' : World) : Prop where
  only : Only (fun k => k = rb ∨ k = pb ∨ sv.ownBlock = some k) w w'
  own : ∀ k, sv'.ownBlock = some k → sv.ownBlock = some k ∨ w.heap.size ≤ k
theorem Frm.refl (rb pb : Nat) (sv : Value) (w : World) : Frm rb pb sv sv w w := ⟨Only.refl _ _, fun _ h => .inl h⟩
theorem Frm.trans {rb pb : Nat} {a b c : Value} {w w1 w2 : World} (h : Frm rb pb a b w w1) (k : Frm rb pb b c w1 w2) : Frm rb pb a c w w2 := by
  refine ⟨⟨k.only.os.trans h.only.os, k.only.tape.trans h.only.tape, k.only.output.trans h.only.output, Nat.le_trans h.only.size k.only.size, fun i hi hx => ?_⟩, fun i hi => ?_⟩
  · rw [k.only.block i (Nat.lt_of_lt_of_le hi h.only.size) ?_, h.only.block i hi hx]
    rintro (q | q | q)
    · exact hx (.inl q)
    · exact hx (.inr (.inl q))
    · rcases h.own i q with q' | q'
      · exact hx (.inr (.inr q'))
      · omega
  · rcases k.own i hi with q | q
    · exact h.own i q
    · exact .inr (Nat.le_trans h.only.size q)
theorem Frm.ofOnly {rb pb : Nat} {sv : Value} {w w' : World} (h : Only (fun k => k = rb ∨ k = pb) w w') : Frm rb pb sv sv w w' :=
  ⟨h.mono (fun _ _ q => q.elim .inl (fun r => .inr (.inl r))), fun _ h => .inl h⟩
/-- The same, a block of one's own left out: whatever lies from w's size on may be turned. -/
theorem Frm.set_new {rb pb b : Nat} {sv sv' : Value} {w w' : World} (h : Frm rb pb sv sv' w w') (i : Nat) (u : Value) (hb : w.heap.size ≤ b) : Frm rb pb sv sv' w (w'.setCell ⟨b, i, none⟩ u) := ⟨h.only.set_new i u hb, h.own⟩
theorem Frm.alloc {rb pb : Nat} {sv sv' : Value} {w w' : World} (h : Frm rb pb sv sv' w w') (o : Obj) : Frm rb pb sv sv' w (w'.alloc o) := ⟨h.only.alloc o, h.own⟩
theorem Frm.drew {rb pb : Nat} {sv sv' : Value} {w w' : World} (h : Frm rb pb sv sv' w w') : Frm rb pb sv sv' w w'.drew := ⟨h.only.drew, h.own⟩
theorem Frm.drewN {rb pb : Nat} {sv sv' : Value} {w w' : World} (h : Frm rb pb sv sv' w w') (n : Nat) : Frm rb pb sv sv' w (w'.drewN n) := ⟨h.only.drewN n, h.own⟩
theorem Frm.tr {rb pb : Nat} {sv sv' : Value} {w w' w2 : World} (h : Frm rb pb sv sv' w w') (k : Only (fun k => k = rb) w' w2) : Frm rb pb sv sv' w w2 := h.trans (Frm.ofOnly (k.mono (fun _ _ q => .inl q)))

end Go.Proofs.YtgbmakpdjdigmaaGreatDoor

/- The reference's reader.stmt: behind its first append: the list has one statement more, nothing else is turned. -/
namespace Go.Proofs.YtgbmakpdjdigmaaGreatDoor
open Go.RowKit

abbrev sInit (inn : Nat) : Array Value := #[.int .i64 0, .string { data := #[] }, .int .i64 0, .int .i64 0, .string { data := #[] }, .int .i64 0, .int .i64 0, .int .i64 0, nilS, .int .i64 0, nilS, nilS, .int .i64 (-1), .int .i64 (-1), .int .i64 inn]
/-- Behind the first append. -/
def Grew (rb pb g n cap B : Nat) (U : Nat → Prop) (toks : List Tk) (fv sv : Value) (x : St) (fs : List FS) (w wx : World) : Prop :=
  ∃ va vl vc, RdBlk rb pb g n cap x.cur x.bad wx ∧ TokRow g n cap toks wx ∧ PrBlk pb fv (.slice va vl vc) x.pl x.ca wx ∧ StRow B U wx (.slice va vl vc) (fs ++ [zFS 0 0]) ∧ Frm rb pb sv (.slice va vl vc) w wx

theorem stmt_grow {rb pb g n cap B : Nat} {U : Nat → Prop} {toks : List Tk} {fv sv : Value} {x : St} {fs : List FS} {w W w3 : World} {va : Option Addr} {vl vc : Nat} {cs : List (List Value)}
    (hr : RdBlk rb pb g n cap x.cur x.bad w) (ht : TokRow g n cap toks w) (hp : PrBlk pb fv sv x.pl x.ca w)
    (hrow : w.ownsRow B 183 15 sv fs.length cs.flatten) (hcl : cs.length = fs.length) (hrep : ∀ i (h : i < cs.length) (h' : i < fs.length), FsRep B U w cs[i] fs[i])
    (hW : Only (fun _ => False) w W) (hown : w3.ownsRow B 183 15 (.slice va vl vc) (fs.length + 1) (cs.flatten ++ zS.toList)) (hg : W.grownBy w3 sv.ownBlock) (hnew : ∀ k, Value.ownBlock (.slice va vl vc) = some k → sv.ownBlock = some k ∨ w.heap.size ≤ k) :
    Grew rb pb g n cap B U toks fv sv x fs w (w3.setCell ⟨pb, 1, none⟩ (.slice va vl vc)) := by
  have hnr := own_ne hrow hr (by decide)
  have hnp := own_ne hrow hp (by decide)
  have ho3 : Only (fun k => sv.ownBlock = some k) w w3 := Only.grown (hW.mono (fun _ _ q => q.elim)) hg (fun k hk => .inl hk)
  have hpr : pb ≠ rb := hp.box.ne hr.box (by decide)
  have hr3 : RdBlk rb pb g n cap x.cur x.bad w3 := hr.only ho3 (fun q => hnr rb q rfl)
  have hp3 : PrBlk pb fv sv x.pl x.ca w3 := hp.box.only ho3 (fun q => hnp pb q rfl)
  have hnt : g ≠ pb := ht.ne hp (by decide)
  have ht3 : TokRow g n cap toks w3 := by
    refine ht.only ho3 (fun q => ?_)
    rcases hrow.2 with ⟨h2, _⟩ | ⟨g', cap', cur', hv, _, hh, _⟩
    · rw [h2] at q; simp [Value.ownBlock] at q
    · rw [hv] at q
      simp [Value.ownBlock] at q
      subst q
      exact ht.ne hh (by decide) rfl
  have ho4 := (Only.refl (fun k => k = pb) w3).set_at 1 (.slice va vl vc)
  have hov : ∀ k, Value.ownBlock (.slice va vl vc) = some k → k ≠ pb := own_ne hown hp3 (by decide)
  refine ⟨va, vl, vc, hr3.box.setOther 1 _ hpr.symm, ht3.only ho4 hnt, hp3.box.set 1 _, ?_, ?_⟩
  · refine ⟨cs ++ [zS.toList], ?_, by simp [hcl], ?_⟩
    · rw [List.flatten_append, List.length_append]
      have := ownsRow_only hown ho4 hov
      simpa using this
    · intro i h1 h2
      have hx : ∀ (k : Nat) (cs : Array Value) (t : TypeId) (fz : Nat × Nat), sv.ownBlock = some k → w.heap[k]? = some (.cells cs t fz) → t ≠ 3 ∧ t ≠ 114 := by
        intro k cs t fz hk hc
        rcases hrow.2 with ⟨h2, _⟩ | ⟨g', cap', cur', hv, _, hh, _⟩
        · rw [h2] at hk; simp [Value.ownBlock] at hk
        · rw [hv] at hk
          simp [Value.ownBlock] at hk
          subst hk
          rw [hc] at hh
          simp only [Option.some.injEq, Obj.cells.injEq] at hh
          rw [hh.2.1]; decide
      have hx4 : ∀ (k : Nat) (cs : Array Value) (t : TypeId) (fz : Nat × Nat), k = pb → w3.heap[k]? = some (.cells cs t fz) → t ≠ 3 ∧ t ≠ 114 := by
        intro k cs t fz hk hc
        subst hk
        have hq : w3.heap[k]? = _ := hp3
        rw [hc] at hq
        simp only [Option.some.injEq, Obj.cells.injEq] at hq
        rw [hq.2.1]; decide
      by_cases hi : i < fs.length
      · rw [List.getElem_append_left (by omega), List.getElem_append_left hi]
        exact ((hrep i (by omega) hi).only ho3 hx).only ho4 hx4
      · have e : i = fs.length := by simp at h2; omega
        subst e
        rw [List.getElem_append_right (by omega), List.getElem_append_right (by omega)]
        simp only [Nat.sub_self, hcl, List.getElem_cons_zero]
        exact ⟨nilS, nilS, nilS, rfl, World.ownsRow_nil _ _ _ _, World.ownsRow_nil _ _ _ _, World.ownsRow_nil _ _ _ _, fun k hk => by simp [Value.ownBlock] at hk⟩
  · refine ⟨(ho3.mono (fun k _ q => .inr (.inr q))).trans (ho4.mono (fun k _ q => .inr (.inl q))), hnew⟩

/-- Fifteen cells of a flat list, one behind the other. -/
theorem set15 (A B : List Value) (c d : List Value) (hc : c.length = 15) (hd : d.length = 15) : ∀ k, k ≤ 15 → (List.range k).foldl (fun (l : List Value) j => l.set (A.length + j) (d[j]?.getD (.bool false))) (A ++ (c ++ B)) = A ++ ((d.take k ++ c.drop k) ++ B) := by
  intro k
  induction k with
  | zero => intro _; simp
  | succ k ih =>
    intro hk
    rw [List.range_succ, List.foldl_append, ih (by omega)]
    simp only [List.foldl_cons, List.foldl_nil]
    rw [List.set_append_right _ _ (by omega), List.append_cancel_left_eq, Nat.add_sub_cancel_left, List.set_append_left _ _ (by simp [hd, hc]; omega), List.append_cancel_right_eq, List.set_append_right _ _ (by simp [hd]; omega)]
    have e : (List.take k d).length = k := by simp [hd]; omega
    rw [e, Nat.sub_self]
    have h1 : d.take (k + 1) = d.take k ++ [d[k]?.getD (.bool false)] := by
      rw [List.take_succ_eq_append_getElem (by omega), List.getElem?_eq_getElem (by omega)]; rfl
    have h2 : c.drop k = c[k]'(by omega) :: c.drop (k + 1) := List.drop_eq_getElem_cons (by omega)
    rw [h1, h2, List.set_cons_zero, List.append_assoc, List.singleton_append]
theorem flat_split (cs : List (List Value)) (h15 : ∀ c ∈ cs, c.length = 15) (i : Nat) (hi : i < cs.length) : cs.flatten = (cs.take i).flatten ++ (cs[i] ++ (cs.drop (i + 1)).flatten) ∧ ((cs.take i).flatten).length = i * 15 := by
  refine ⟨?_, ?_⟩
  · conv => lhs; rw [← List.take_append_drop i cs]
    rw [List.flatten_append, List.drop_eq_getElem_cons hi, List.flatten_cons]
  · have : ∀ l : List (List Value), (∀ c ∈ l, c.length = 15) → l.flatten.length = l.length * 15 := by
      intro l hl
      induction l with
      | nil => rfl
      | cons c l ih => rw [List.flatten_cons, List.length_append, ih (fun c hc => hl c (List.mem_cons_of_mem _ hc)), hl c (List.mem_cons_self ..), List.length_cons]; omega
    rw [this _ (fun c hc => h15 c (List.mem_of_mem_take hc)), List.length_take]
    congr 1; omega
theorem flat_set (cs : List (List Value)) (h15 : ∀ c ∈ cs, c.length = 15) (i : Nat) (hi : i < cs.length) (d : List Value) (hd : d.length = 15) : (List.range 15).foldl (fun (l : List Value) j => l.set (i * 15 + j) (d[j]?.getD (.bool false))) cs.flatten = (cs.set i d).flatten := by
  obtain ⟨h1, h2⟩ := flat_split cs h15 i hi
  have := set15 (cs.take i).flatten (cs.drop (i + 1)).flatten cs[i] d (h15 _ (List.getElem_mem _)) hd 15 (Nat.le_refl _)
  rw [h2, ← h1] at this
  have t1 : List.take 15 d = d := List.take_of_length_le (by omega)
  have t2 : List.drop 15 cs[i] = [] := List.drop_of_length_le (by rw [h15 _ (List.getElem_mem _)]; omega)
  rw [this, t1, t2]
  rw [List.set_eq_take_append_cons_drop, if_pos hi]
  simp

/-- The cells of one statement written over, one behind the other. -/
def put15 (w : World) (gg o : Nat) (d : List Value) : World := (List.range 15).foldl (fun w j => w.setCell ⟨gg, o + j, none⟩ (d[j]?.getD (.bool false))) w
theorem own_put15 {w : World} {B gg n cap : Nat} {xs : List Value} (h : w.ownsRow B 183 15 (.slice (some ⟨gg, 0, none⟩) n cap) n xs) (o : Nat) (d : List Value) :
    (put15 w gg o d).ownsRow B 183 15 (.slice (some ⟨gg, 0, none⟩) n cap) n ((List.range 15).foldl (fun (l : List Value) j => l.set (o + j) (d[j]?.getD (.bool false))) xs) := by
  unfold put15
  suffices H : ∀ (js : List Nat) (w : World) (xs : List Value), w.ownsRow B 183 15 (.slice (some ⟨gg, 0, none⟩) n cap) n xs → (js.foldl (fun w j => w.setCell ⟨gg, o + j, none⟩ (d[j]?.getD (.bool false))) w).ownsRow B 183 15 (.slice (some ⟨gg, 0, none⟩) n cap) n (js.foldl (fun (l : List Value) j => l.set (o + j) (d[j]?.getD (.bool false))) xs) from H _ _ _ h
  intro js
  induction js with
  | nil => intro w xs h; exact h
  | cons j js ih => intro w xs h; exact ih _ _ (h.stored (o + j) _).1
theorem only_put15 (w : World) (gg o : Nat) (d : List Value) : Only (fun k => k = gg) w (put15 w gg o d) := by
  unfold put15
  suffices H : ∀ (js : List Nat) (w' : World), Only (fun k => k = gg) w w' → Only (fun k => k = gg) w (js.foldl (fun w j => w.setCell ⟨gg, o + j, none⟩ (d[j]?.getD (.bool false))) w') from H _ _ (Only.refl _ _)
  intro js
  induction js with
  | nil => intro w' h; exact h
  | cons j js ih => intro w' h; exact ih _ (h.set_at _ _)
theorem put15_lit (w : World) (gg o : Nat) (v0 v1 v2 v3 v4 v5 v6 v7 v8 v9 v10 v11 v12 v13 v14 : Value) : put15 w gg o [v0, v1, v2, v3, v4, v5, v6, v7, v8, v9, v10, v11, v12, v13, v14] = ((((((((((((((w.setCell ⟨gg, o, none⟩ v0).setCell ⟨gg, o + 1, none⟩ v1).setCell ⟨gg, o + 2, none⟩ v2).setCell ⟨gg, o + 3, none⟩ v3).setCell ⟨gg, o + 4, none⟩ v4).setCell ⟨gg, o + 5, none⟩ v5).setCell ⟨gg, o + 6, none⟩ v6).setCell ⟨gg, o + 7, none⟩ v7).setCell ⟨gg, o + 8, none⟩ v8).setCell ⟨gg, o + 9, none⟩ v9).setCell ⟨gg, o + 10, none⟩ v10).setCell ⟨gg, o + 11, none⟩ v11).setCell ⟨gg, o + 12, none⟩ v12).setCell ⟨gg, o + 13, none⟩ v13).setCell ⟨gg, o + 14, none⟩ v14 := rfl
theorem own_cell {w : World} {B : Nat} {gg l c n : Nat} {xs : List Value} (h : w.ownsRow B 183 15 (.slice (some ⟨gg, 0, none⟩) l c) n xs) (i : Nat) (hi : i < n) (j : Nat) (hj : j < 15) : ∃ u, w.cell? ⟨gg, i * 15 + j, none⟩ = some u := by
  have hl := own_len h
  subst hl
  have hx : i * 15 + j < l * 15 := by omega
  rw [h.cellAt (i * 15 + j) hx]
  exact ⟨_, List.getElem?_eq_getElem (by rw [h.1]; exact hx)⟩
theorem own_frozen {w : World} {B : Nat} {gg l c n : Nat} {xs : List Value} (h : w.ownsRow B 183 15 (.slice (some ⟨gg, 0, none⟩) l c) n xs) (j : Nat) : w.frozen? ⟨gg, j, none⟩ = false := by
  have hl := own_len h
  subst hl
  exact h.frozenAt j
theorem Frm.put {rb pb gg : Nat} {sv sv' : Value} {w w1 w2 : World} (h : Frm rb pb sv sv' w w1) (hg : sv'.ownBlock = some gg) (ho : Only (fun k => k = gg) w1 w2) : Frm rb pb sv sv' w w2 := by
  refine ⟨⟨ho.os.trans h.only.os, ho.tape.trans h.only.tape, ho.output.trans h.only.output, Nat.le_trans h.only.size ho.size, fun k hk hx => ?_⟩, h.own⟩
  rw [ho.block k (Nat.lt_of_lt_of_le hk h.only.size) ?_]
  · exact h.only.block k hk hx
  · intro e
    have e : k = gg := e
    subst e
    rcases h.own k hg with q | q
    · exact hx (.inr (.inr q))
    · omega
/-- A statement written into the list. -/
theorem StRow.put {B : Nat} {U : Nat → Prop} {w : World} {gg l cap i : Nat} {fs : List FS} {s : FS} {d : List Value} (h : StRow B U w (.slice (some ⟨gg, 0, none⟩) l cap) fs) (hi : i < fs.length) (hd : FsRep B U w d s) : StRow B U (put15 w gg (i * 15) d) (.slice (some ⟨gg, 0, none⟩) l cap) (fs.set i s) := by
  obtain ⟨cs, hrow, hl, hrep⟩ := h
  have hll := own_len hrow
  subst hll
  have h15 : ∀ c ∈ cs, c.length = 15 := by
    intro c hc
    obtain ⟨j, hj, rfl⟩ := List.mem_iff_getElem.1 hc
    exact (hrep j hj (by omega)).length
  have ho := only_put15 w gg (i * 15) d
  have hx : ∀ (k : Nat) (cs : Array Value) (t : TypeId) (fz : Nat × Nat), k = gg → w.heap[k]? = some (.cells cs t fz) → t ≠ 3 ∧ t ≠ 114 := by
    intro k cs t fz hk hc
    subst hk
    rcases hrow.2 with ⟨h2, _⟩ | ⟨g', cap', cur', hv, _, hh, _⟩
    · simp at h2
    · simp only [Value.slice.injEq, Option.some.injEq, Addr.mk.injEq] at hv
      rw [← hv.1.1, hc] at hh
      simp only [Option.some.injEq, Obj.cells.injEq] at hh
      rw [hh.2.1]; decide
  refine ⟨cs.set i d, ?_, by simp [hl], ?_⟩
  · have := own_put15 hrow (i * 15) d
    rw [flat_set cs h15 i (by omega) d hd.length] at this
    simpa using this
  · intro j h1 h2
    by_cases hj : i = j
    · subst hj
      simp only [List.getElem_set_self]
      exact hd.only ho hx
    · simp only [List.getElem_set_ne hj]
      exact (hrep j _ _).only ho hx

/-- What stmt leaves. -/
def stPost (rb pb g n cap B : Nat) (U : Nat → Prop) (toks : List Tk) (fv sv : Value) (w : World) (r : Nat × St × List FS) (e : Ending) (w' : World) : Prop :=
  ∃ sv' U', (∀ k, U k → U' k) ∧ (∀ k, U' k → U k ∨ w.heap.size ≤ k) ∧ e = .returned (.int .i64 r.1) ∧ RdBlk rb pb g n cap r.2.1.cur r.2.1.bad w' ∧ TokRow g n cap toks w' ∧ PrBlk pb fv sv' r.2.1.pl r.2.1.ca w' ∧ StRow B U' w' sv' r.2.2 ∧ Frm rb pb sv sv' w w'

end Go.Proofs.YtgbmakpdjdigmaaGreatDoor

/- Small facts for reader.stmt at an assignment. No condition. -/
namespace Go.Proofs.YtgbmakpdjdigmaaGreatDoor
open Go.RowKit
theorem SF.value {rb pb sb g n cap B : Nat} {U : Nat → Prop} {toks : List Tk} {fv sv : Value} {x x' : St} {fs : List FS} {sc : Array Value} {w w' : World} (h : SF rb pb sb g n cap B U toks fv sv x fs sc w) (hr : RdBlk rb pb g n cap x'.cur x'.bad w') (ht : TokRow g n cap toks w') (hp : PrBlk pb fv sv x'.pl x'.ca w') (ho : Only (fun k => k = rb ∨ k = pb) w w') : SF rb pb sb g n cap B U toks fv sv x' fs sc w' := by
  have hn := h.nes
  refine ⟨hr, ht, hp, h.sx.only ho (fun q => q.elim hn.2.2.1 hn.2.2.2.2.1), h.st.only ho (fun k hk q => q.elim (h.svne k hk).1 (h.svne k hk).2.1) ?_, h.nb⟩
  intro k cs t fz hk hc
  rcases hk with hk | hk
  · subst hk
    have hr0 : w.heap[k]? = _ := h.rd
    rw [hc] at hr0
    simp only [Option.some.injEq, Obj.cells.injEq] at hr0
    rw [hr0.2.1]; decide
  · subst hk
    have hr0 : w.heap[k]? = _ := h.pr
    rw [hc] at hr0
    simp only [Option.some.injEq, Obj.cells.injEq] at hr0
    rw [hr0.2.1]; decide
theorem valS_body (toks : List Tk) (x : St) (s : FS) : (valS toks x s).1.body = s.body ∧ (valS toks x s).1.other = s.other := by
  unfold valS
  split
  · exact ⟨rfl, rfl⟩
  · split
    · simp only
      split <;> exact ⟨rfl, rfl⟩
    · split
      · exact ⟨rfl, rfl⟩
      · split
        · exact ⟨rfl, rfl⟩
        · split
          · exact ⟨rfl, rfl⟩
          · simp only
            split <;> exact ⟨rfl, rfl⟩

theorem valS_cur {toks : List Tk} {n : Nat} (hz : (tokAt toks (n - 1)).sort = 0) (x : St) (s : FS) (hc : x.cur < n) : (valS toks x s).2.cur < n := by
  have E : ∀ (L : List UInt8) (x : St), x.cur < n → (eatS toks L x).cur < n := fun L x h => eatS_cur rfl hz h
  have G : ∀ (k : Nat) (x : St), k ≠ 0 → x.cur < n → (getS toks k x).2.cur < n := fun k x hk h => getS_cur (q := (getS toks k x).1) rfl hk hz h
  have I : ∀ (x : St), x.cur < n → (listS toks x).2.cur < n := fun x h => listS_cur (q := (listS toks x).1) rfl hz h
  unfold valS
  split
  · exact E _ _ hc
  · split
    · simp only
      split
      · exact G _ _ (by decide) (E _ _ (G _ _ (by decide) (E _ _ hc)))
      · exact G _ _ (by decide) (E _ _ hc)
    · split
      · exact G _ _ (by decide) (E _ _ hc)
      · split
        · exact G _ _ (by decide) (E _ _ hc)
        · split
          · exact I _ (E _ _ (E _ _ (G _ _ (by decide) (E _ _ (E _ _ hc)))))
          · simp only
            split
            · exact I _ (E _ _ (G _ _ (by decide) hc))
            · exact G _ _ (by decide) hc

end Go.Proofs.YtgbmakpdjdigmaaGreatDoor

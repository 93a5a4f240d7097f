/- Mem: told at each. -/
import Derived.Test.YtgbmakpdjdigmaaGreatDoorProg
import Derived.Below
import Derived.WalkKit
import Derived.WalkSpells
import Derived.WalkLawsBesides
import Derived.RegionTactic
import Derived.ChangeAlike
import Derived.BigRegion
import Derived.Deep.QuietTactic
import Derived.BigQuiet
import Derived.Deep.RegionLaw
import Derived.Deep.DeepCutAuto

/- Words and laws on memory, of no function: what a call may turn (Only), boxes of a call's own (Box), rows of a call's own. No condition. -/
namespace Go.Proofs.YtgbmakpdjdigmaaGreatDoor
open Go.RowKit

/-- Of what is there nothing is turned but the blocks that X names. -/
structure Only (X : Nat → Prop) (w w' : World) : Prop where
  os : w'.os = w.os
  tape : w'.tape = w.tape
  output : w'.output = w.output
  size : w.heap.size ≤ w'.heap.size
  block : ∀ k, k < w.heap.size → ¬ X k → w'.heap[k]? = w.heap[k]?
theorem Only.refl (X : Nat → Prop) (w : World) : Only X w w := ⟨rfl, rfl, rfl, Nat.le_refl _, fun _ _ _ => rfl⟩
theorem Only.trans {X : Nat → Prop} {a b c : World} (h : Only X a b) (k : Only X b c) : Only X a c :=
  ⟨k.os.trans h.os, k.tape.trans h.tape, k.output.trans h.output, Nat.le_trans h.size k.size, fun i hi hx => (k.block i (Nat.lt_of_lt_of_le hi h.size) hx).trans (h.block i hi hx)⟩
theorem Only.mono {X Y : Nat → Prop} {a b : World} (h : Only X a b) (hx : ∀ k, k < a.heap.size → X k → Y k) : Only Y a b :=
  ⟨h.os, h.tape, h.output, h.size, fun k hk hy => h.block k hk (fun q => hy (hx k hk q))⟩
theorem Only.drew {X : Nat → Prop} {a w : World} (h : Only X a w) : Only X a w.drew := ⟨h.os, h.tape, h.output, h.size, h.block⟩
theorem Only.drewN {X : Nat → Prop} {a w : World} (h : Only X a w) (n : Nat) : Only X a (w.drewN n) := h.trans ⟨rfl, rfl, rfl, Nat.le_refl _, fun _ _ _ => rfl⟩
theorem Only.alloc {X : Nat → Prop} {a w : World} (h : Only X a w) (o : Obj) : Only X a (w.alloc o) :=
  h.trans ⟨rfl, rfl, rfl, by simp, fun k hk _ => Below.heap_alloc _ _ _ hk⟩
theorem Only.setCell {X : Nat → Prop} {a w : World} (h : Only X a w) {p : Addr} (hp : X p.block ∨ a.heap.size ≤ p.block) (u : Value) : Only X a (w.setCell p u) := by
  refine ⟨h.os, h.tape, h.output, by have := h.size; simpa [World.setCell] using this, fun k hk hx => ?_⟩
  rw [Below.heap_setCell _ _ _ _ ?_]
  · exact h.block k hk hx
  · intro e
    subst e
    rcases hp with hp | hp
    · exact hx hp
    · omega
theorem Only.set_at {b : Nat} {a w : World} (h : Only (fun k => k = b) a w) (i : Nat) (u : Value) : Only (fun k => k = b) a (w.setCell ⟨b, i, none⟩ u) := h.setCell (.inl rfl) u
theorem Only.set_new {X : Nat → Prop} {b : Nat} {a w : World} (h : Only X a w) (i : Nat) (u : Value) (hb : a.heap.size ≤ b) : Only X a (w.setCell ⟨b, i, none⟩ u) := h.setCell (.inr hb) u
theorem Only.below {X : Nat → Prop} {a b : World} (h : Only X a b) (hx : ∀ k, X k → a.heap.size ≤ k) : Below a.heap.size a b :=
  ⟨h.os, h.tape, h.output, h.size, fun k hk => h.block k hk (fun q => by have := hx k q; omega)⟩
theorem Only.belowB {X : Nat → Prop} {B : Nat} {a b : World} (h : Only X a b) (hB : B ≤ a.heap.size) (hx : ∀ k, X k → B ≤ k) : Below B a b :=
  ⟨h.os, h.tape, h.output, h.size, fun k hk => h.block k (by omega) (fun q => by have := hx k q; omega)⟩
theorem Only.grown {X : Nat → Prop} {a w w' : World} {row : Option Nat} (h : Only X a w) (hg : w.grownBy w' row) (hr : ∀ k, row = some k → X k ∨ a.heap.size ≤ k) : Only X a w' := by
  refine ⟨hg.os.trans h.os, hg.tape.trans h.tape, hg.output.trans h.output, Nat.le_trans h.size hg.size, fun k hk hx => ?_⟩
  rw [hg.block k (Nat.lt_of_lt_of_le hk h.size) ?_]
  · exact h.block k hk hx
  · intro e
    rcases hr k e.symm with q | q
    · exact hx q
    · omega
theorem blk_cell {w : World} {b : Nat} {cs : Array Value} {t : TypeId} {fz : Nat × Nat} (h : w.heap[b]? = some (.cells cs t fz)) (i : Nat) : w.cell? ⟨b, i, none⟩ = cs[i]? := by
  simp [World.cell?, h]
theorem blk_frozen {w : World} {b : Nat} {cs : Array Value} {t : TypeId} (h : w.heap[b]? = some (.cells cs t (0, 0))) (i : Nat) : w.frozen? ⟨b, i, none⟩ = false := by
  simp [World.frozen?, h]
theorem blk_lt {w : World} {b : Nat} {o : Obj} (h : w.heap[b]? = some o) : b < w.heap.size := (Array.getElem?_eq_some_iff.1 h).1
theorem setCell_blk {w : World} {b : Nat} {cs : Array Value} {t : TypeId} {fz : Nat × Nat} (h : w.heap[b]? = some (.cells cs t fz)) (i : Nat) (u : Value) : (w.setCell ⟨b, i, none⟩ u).heap[b]? = some (.cells (cs.setIfInBounds i u) t fz) := by
  simp [World.setCell, Array.getElem?_modify, h]
theorem ownsRow_only {w w' : World} {B : Nat} {e : TypeId} {size : Nat} {v : Value} {n : Nat} {xs : List Value} {X : Nat → Prop} (h : w.ownsRow B e size v n xs) (ho : Only X w w') (hx : ∀ k, v.ownBlock = some k → ¬ X k) : w'.ownsRow B e size v n xs := by
  refine ⟨h.1, ?_⟩
  rcases h.2 with h2 | ⟨g, cap, cur, hv, hg, hh, r⟩
  · exact .inl h2
  · refine .inr ⟨g, cap, cur, hv, hg, ?_, r⟩
    rw [ho.block g (blk_lt hh) (hx g (by rw [hv]; rfl))]; exact hh
/-- A box of the call's own at block b. -/
def Box (b : Nat) (cs : Array Value) (t : TypeId) (w : World) : Prop := w.heap[b]? = some (.cells cs t (0, 0))
theorem Box.only {b : Nat} {cs : Array Value} {t : TypeId} {X : Nat → Prop} {w w' : World} (h : Box b cs t w) (ho : Only X w w') (hx : ¬ X b) : Box b cs t w' := by
  unfold Box at h ⊢
  rw [ho.block b (blk_lt h) hx]; exact h
theorem Box.set {b : Nat} {cs : Array Value} {t : TypeId} {w : World} (h : Box b cs t w) (i : Nat) (u : Value) : Box b (cs.setIfInBounds i u) t (w.setCell ⟨b, i, none⟩ u) := setCell_blk h i u
theorem Box.setOther {b c : Nat} {cs : Array Value} {t : TypeId} {w : World} (h : Box b cs t w) (i : Nat) (u : Value) (hne : b ≠ c) : Box b cs t (w.setCell ⟨c, i, none⟩ u) := by
  unfold Box at h ⊢
  rw [Below.heap_setCell _ _ _ _ hne]; exact h
theorem Box.alloc {b : Nat} {cs : Array Value} {t : TypeId} {w : World} (h : Box b cs t w) (o : Obj) : Box b cs t (w.alloc o) := by
  have := blk_lt h
  unfold Box at h ⊢
  rw [Below.heap_alloc _ _ _ this]; exact h
theorem Box.new (w : World) (cs : Array Value) (t : TypeId) : Box w.heap.size cs t (w.alloc (.cells cs t)) := heap_alloc_new w _
theorem Box.cell {b : Nat} {cs : Array Value} {t : TypeId} {w : World} (h : Box b cs t w) (i : Nat) : w.cell? ⟨b, i, none⟩ = cs[i]? := blk_cell h i
theorem Box.frozen {b : Nat} {cs : Array Value} {t : TypeId} {w : World} (h : Box b cs t w) (i : Nat) : w.frozen? ⟨b, i, none⟩ = false := blk_frozen h i
theorem Box.ne {a b : Nat} {cs ds : Array Value} {t u : TypeId} {w : World} (h : Box a cs t w) (k : Box b ds u w) (hne : t ≠ u) : a ≠ b := by
  rintro rfl
  unfold Box at h k
  rw [h] at k
  simp only [Option.some.injEq, Obj.cells.injEq] at k
  exact hne k.2.1
theorem owns_form {w : World} {B : Nat} {e : TypeId} {size : Nat} {v : Value} {n : Nat} {xs : List Value} (h : w.ownsRow B e size v n xs) : ∃ a l c, v = .slice a l c := by
  rcases h.2 with ⟨h2, _⟩ | ⟨g, cap, cur, hv, _⟩
  · exact ⟨_, _, _, h2⟩
  · exact ⟨_, _, _, hv⟩
theorem ownsRow_base {w : World} {B B' : Nat} {e : TypeId} {size : Nat} {v : Value} {n : Nat} {xs : List Value} (h : w.ownsRow B e size v n xs) (hB : B' ≤ B) : w.ownsRow B' e size v n xs := by
  refine ⟨h.1, ?_⟩
  rcases h.2 with h2 | ⟨g, cap, cur, hv, hg, r⟩
  · exact .inl h2
  · exact .inr ⟨g, cap, cur, hv, Nat.le_trans hB hg, r⟩
theorem hide1 {p : Prop} (h : p) : Hid p := h
theorem Only.tr {rb pb : Nat} {a w w' : World} (h : Only (fun k => k = rb ∨ k = pb) a w) (k : Only (fun k => k = rb) w w') : Only (fun k => k = rb ∨ k = pb) a w' := h.trans (k.mono (fun _ _ q => .inl q))
theorem Only.tr0 {X : Nat → Prop} {a w w' : World} (h : Only X a w) (k : Only (fun _ => False) w w') : Only X a w' := h.trans (k.mono (fun _ _ q => q.elim))
theorem ownsRow_typed {w w' : World} {B : Nat} {e : TypeId} {size : Nat} {v : Value} {n : Nat} {xs : List Value} {X : Nat → Prop} (h : w.ownsRow B e size v n xs) (ho : Only X w w') (hx : ∀ k cs fz, X k → w.heap[k]? ≠ some (.cells cs e fz)) : w'.ownsRow B e size v n xs := by
  refine ⟨h.1, ?_⟩
  rcases h.2 with h2 | ⟨g, cap, cur, hv, hg, hh, r⟩
  · exact .inl h2
  · refine .inr ⟨g, cap, cur, hv, hg, ?_, r⟩
    rw [ho.block g (blk_lt hh) (fun q => hx g _ _ q hh)]; exact hh
/-- Where the value of an append to one's own row lies: where it lay, or in new memory. -/
theorem append_block {P : Program} {w : World} (base : Nat) (t ty e : TypeId) (i : TypeInfo) (z : Value) (ht : P.underlying t = some (.slice e)) (hi : P.info? e = some i) (hz : i.zero = some z)
    (v : Value) (n : Nat) (xs : List Value) (hown : w.ownsRow base e i.size v n xs)
    (a : Addr) (m c : Nat) (news : List Value) (hl : news.length = m * i.size) (hnews : ∀ j u, news[j]? = some u → w.cell? (a.add j) = some u) (h1 : ∀ u ∈ news, u.oneCell' = true)
    (hm : 0 < m) (h63 : n + m ≤ maxLen) (hbytes : (n + m) * i.bytes ≤ 140737488355328) {v' : Value} {w' : World} (hrun : (Builtin.append_ #[t, t] ty #[v, .slice (some a) m c]).run P w = .ok v' w') :
    ∀ k, v'.ownBlock = some k → v.ownBlock = some k ∨ w.heap.size ≤ k := by
  intro k hk
  have h63' : n + m ≤ 9223372036854775807 := by simp only [maxLen] at h63; omega
  rcases hown.2 with ⟨rfl, rfl⟩ | ⟨g, cap, cur, rfl, _, hg, hnc, hcm, hcs, htake⟩
  · have hr := run_append_nil (P := P) w t ty e i z ht hi hz a m c news hl hnews hm (by omega) (by simp only [Nat.zero_add] at hbytes; omega)
    rw [hrun] at hr
    simp only [Result.ok.injEq] at hr
    rw [hr.1] at hk
    simp [Value.ownBlock] at hk
    exact .inr (by omega)
  · by_cases hroom : n + m ≤ cap
    · have hfit : n * i.size + news.length ≤ cur.size := by rw [hl, hcs, ← Nat.add_mul]; exact Nat.mul_le_mul_right _ hroom
      have hr := run_append_room (P := P) w t ty e i ht hi g n cap cur hg a m c news hl hnews h1 hroom hfit
      rw [hrun] at hr
      simp only [Result.ok.injEq] at hr
      rw [hr.1] at hk
      exact .inl (by simpa [Value.ownBlock] using hk)
    · have holds : ∀ j u, xs[j]? = some u → w.cell? ((⟨g, 0, none⟩ : Addr).add j) = some u := hown.cells (g := g) rfl
      have hr := run_append_grow (P := P) w t ty e i z ht hi hz ⟨g, 0, none⟩ n cap xs hown.1 holds a m c news hl hnews (by omega) (by omega) (growslice_fits (by omega) hbytes)
      rw [hrun] at hr
      simp only [Result.ok.injEq] at hr
      rw [hr.1] at hk
      simp [Value.ownBlock] at hk
      exact .inr (by omega)
/-- append to one's own row, as one step of a region that draws. -/
theorem step_append_own {P : Program} {ops : Array Oper} {o : Oper} {a : Act} {w : World} {K : Act → World → Prop} {Q : Exit → Act → World → Prop} {E : Prop}
    (hg : o.guard = none) (s x : Operand) (t : TypeId) (hop : o.op = Op.call { callee := Callee.builtin Builtin.append, args := #[s, x], argTypes := #[t, t] })
    (base : Nat) (e : TypeId) (i : TypeInfo) (z : Value) (size bytes : Nat) (h1 : P.underlying t = some (.slice e)) (h2 : P.info? e = some i) (h3 : i.zero = some z) (h4 : i.size = size) (h5 : i.bytes = bytes) (h6 : z.cells.size = size) (h7 : 0 < size)
    (v : Value) (n : Nat) (xs : List Value) (hs : a.eval s = v) (hown : w.ownsRow base e size v n xs)
    (ad : Addr) (m c : Nat) (news : List Value) (hx : a.eval x = .slice (some ad) m c) (hn : news.length = m * size) (hc : ∀ j u, news[j]? = some u → w.cell? (ad.add j) = some u) (h1c : ∀ u ∈ news, u.oneCell' = true)
    (hm : 0 < m) (b1 : n + m ≤ maxLen) (b2 : (n + m) * bytes ≤ 140737488355328) (hbase : base ≤ w.heap.size)
    (hK : ∀ v' w', w'.ownsRow base e size v' (n + m) (xs ++ news) → w.grownBy w' v.ownBlock → (∀ k, v'.ownBlock = some k → v.ownBlock = some k ∨ w.heap.size ≤ k) → K (a.put o.dst v') w') :
    if Region.wanted o (yielded ops a.tmps) = true then Oper.wp P o a w K Q else E := by
  have hw : Region.wanted o (yielded ops a.tmps) = true := by simp [Region.wanted, hg]
  rw [if_pos hw]
  obtain ⟨v', w', hrun, r1, r2, _⟩ := run_append_own (P := P) w base t o.type e i z size bytes h1 h2 h3 h4 h5 h6 h7 v n xs hown ad m c news hn hc h1c b1 b2 hbase
  have r3 : ∀ k, v'.ownBlock = some k → v.ownBlock = some k ∨ w.heap.size ≤ k := by
    subst h4
    subst h5
    exact append_block base t o.type e i z h1 h2 h3 v n xs hown ad m c news hn hc h1c hm b1 b2 hrun
  unfold Oper.wp
  simp [execOp, hop, resolve, invoke, builtin, hs, hx, hrun, Result.andThen]
  exact hK v' w' r1 r2 r3
theorem cells_new {w : World} {g : Nat} (hg : g = w.heap.size) (cs : Array Value) (t : TypeId) : ∀ j u, cs.toList[j]? = some u → (w.alloc (.cells cs t)).cell? ((⟨g, 0, none⟩ : Addr).add j) = some u := by
  intro j u h
  subst hg
  have hb := (Box.new w cs t).cell j
  have ha : (⟨w.heap.size, 0, none⟩ : Addr).add j = ⟨w.heap.size, j, none⟩ := by
    simp only [Addr.add]
    split
    · rename_i h0; subst h0; rfl
    · simp
  rw [ha, hb]
  simpa using h
/-- A row of statements is no block of another type. -/
theorem own_ne {w : World} {B : Nat} {e : TypeId} {size : Nat} {v : Value} {n : Nat} {xs : List Value} (h : w.ownsRow B e size v n xs) {b : Nat} {cs : Array Value} {t : TypeId} {fz : Nat × Nat} (hb : w.heap[b]? = some (.cells cs t fz)) (ht : t ≠ e) : ∀ k, v.ownBlock = some k → k ≠ b := by
  intro k hk e
  subst e
  rcases h.2 with ⟨h2, _⟩ | ⟨g', cap', cur', hv, _, hh, _⟩
  · rw [h2] at hk; simp [Value.ownBlock] at hk
  · rw [hv] at hk
    simp [Value.ownBlock] at hk
    subst hk
    rw [hb] at hh
    simp only [Option.some.injEq, Obj.cells.injEq] at hh
    exact ht hh.2.1
theorem own_len {w : World} {B : Nat} {e : TypeId} {size : Nat} {a : Option Addr} {l c n : Nat} {xs : List Value} (h : w.ownsRow B e size (.slice a l c) n xs) : l = n := by
  rcases h.2 with ⟨h1, h'⟩ | ⟨_, _, _, h1, _⟩
  · simp at h1; omega
  · simp at h1; omega
theorem own_some {w : World} {B : Nat} {e : TypeId} {size : Nat} {a : Option Addr} {l c n : Nat} {xs : List Value} (h : w.ownsRow B e size (.slice a l c) n xs) (hn : 0 < n) : ∃ gg, a = some ⟨gg, 0, none⟩ := by
  rcases h.2 with ⟨_, h'⟩ | ⟨gg, _, _, h1, _⟩
  · omega
  · simp only [Value.slice.injEq] at h1
    exact ⟨gg, h1.1⟩
theorem own_blk {w : World} {B : Nat} {e : TypeId} {size : Nat} {gg l c n : Nat} {xs : List Value} (h : w.ownsRow B e size (.slice (some ⟨gg, 0, none⟩) l c) n xs) : ∃ cur, w.heap[gg]? = some (.cells cur e (0, 0)) := by
  rcases h.2 with ⟨h1, _⟩ | ⟨g', _, cur, h1, _, hh, _⟩
  · simp at h1
  · simp only [Value.slice.injEq, Option.some.injEq, Addr.mk.injEq] at h1
    rw [h1.1.1]; exact ⟨cur, hh⟩
theorem Tryz.infoInt : (Tryz.prog.info? 3).map (fun i => (i.zero, i.size, i.bytes)) = some (some (.int .i64 0), 1, 8) := by kernel_rfl
/-- append to one's own row, with the word on where its value lies. -/
theorem wpList_append_blk {P : Program} (w : World) {ops : Array Oper} {rest : List Oper} {o : Oper} {a : Act} {Q : Exit → Act → World → Prop} (hgd : o.guard = none) (s x : Operand) (t : TypeId)
    (ho : o.op = .call { callee := .builtin .append, args := #[s, x], argTypes := #[t, t] })
    (base : Nat) (e : TypeId) (i : TypeInfo) (z : Value) (size bytes : Nat) (ht : P.underlying t = some (.slice e)) (hi : P.info? e = some i) (hz : i.zero = some z)
    (hsize : i.size = size) (hby : i.bytes = bytes) (hzs : z.cells.size = size) (hsz : 0 < size)
    (v : Value) (n : Nat) (xs : List Value) (hs : a.eval s = v) (hown : w.ownsRow base e size v n xs)
    (ad : Addr) (m c : Nat) (news : List Value) (hx : a.eval x = .slice (some ad) m c) (hl : news.length = m * size) (hnews : ∀ j u, news[j]? = some u → w.cell? (ad.add j) = some u) (h1 : ∀ u ∈ news, u.oneCell' = true)
    (hm : 0 < m) (h63 : n + m ≤ maxLen) (hbytes : (n + m) * bytes ≤ 140737488355328) (hbase : base ≤ w.heap.size)
    (h : ∀ v' w', w'.ownsRow base e size v' (n + m) (xs ++ news) → w.grownBy w' v.ownBlock → (∀ k, v'.ownBlock = some k → v.ownBlock = some k ∨ w.heap.size ≤ k) → wpList P ops Q rest (a.put o.dst v') w') : wpList P ops Q (o :: rest) a w :=
  wpList_plain hgd fun K hK => by
    obtain ⟨v', w', hrun, r1, r2, _⟩ := run_append_own (P := P) w base t o.type e i z size bytes ht hi hz hsize hby hzs hsz v n xs hown ad m c news hl hnews h1 h63 hbytes hbase
    have r3 : ∀ k, v'.ownBlock = some k → v.ownBlock = some k ∨ w.heap.size ≤ k := by
      subst hsize
      subst hby
      exact append_block base t o.type e i z ht hi hz v n xs hown ad m c news hl hnews h1 hm h63 hbytes hrun
    unfold Oper.wp
    simp [execOp, ho, resolve, invoke, builtin, hs, hx, hrun, Result.andThen]
    exact hK _ _ (h v' w' r1 r2 r3)
theorem typ_ne {w : World} {b : Nat} {cs : Array Value} {t e : TypeId} (h : Box b cs t w) (hne : t ≠ e) : ∀ k ds fz, k = b → w.heap[k]? ≠ some (.cells ds e fz) := by
  intro k ds fz hk q
  subst hk
  unfold Box at h
  rw [h] at q
  simp only [Option.some.injEq, Obj.cells.injEq] at q
  exact hne q.2.1
theorem own_typ {w : World} {B : Nat} {t e : TypeId} {size : Nat} {v : Value} {n : Nat} {xs : List Value} (h : w.ownsRow B t size v n xs) (hne : t ≠ e) : ∀ k ds fz, v.ownBlock = some k → w.heap[k]? ≠ some (.cells ds e fz) := by
  intro k ds fz hk q
  rcases h.2 with ⟨h2, _⟩ | ⟨g', cap', cur', hv, _, hh, _⟩
  · rw [h2] at hk; simp [Value.ownBlock] at hk
  · rw [hv] at hk
    simp [Value.ownBlock] at hk
    subst hk
    rw [hh] at q
    simp only [Option.some.injEq, Obj.cells.injEq] at q
    exact hne q.2.1
theorem own_two {w : World} {B B' : Nat} {t e : TypeId} {s1 s2 n m : Nat} {v u : Value} {xs ys : List Value} (h : w.ownsRow B t s1 v n xs) (h' : w.ownsRow B' e s2 u m ys) (hne : t ≠ e) : ∀ k, v.ownBlock = some k → ¬ u.ownBlock = some k := by
  intro k hk q
  rcases h'.2 with ⟨h2, _⟩ | ⟨g', cap', cur', hv, _, hh, _⟩
  · rw [h2] at q; simp [Value.ownBlock] at q
  · rw [hv] at q
    simp [Value.ownBlock] at q
    subst q
    exact own_typ h hne _ _ _ hk hh

end Go.Proofs.YtgbmakpdjdigmaaGreatDoor

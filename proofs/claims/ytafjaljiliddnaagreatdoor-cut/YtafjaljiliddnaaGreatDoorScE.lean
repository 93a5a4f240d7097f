/- The program's scanner in memory (ScS), what a call on it may turn (Fr), and its method add: one token more. Texts of at most 4000 bytes. -/
import Derived.Test.YtafjaljiliddnaaGreatDoorScD
namespace Go.Proofs.YtafjaljiliddnaaGreatDoor
open Go.RowKit

def ptCells (t : PT) : List Value := [.int .i64 t.kind, .string t.text, .int .i64 t.place]
def ptsCells (l : List PT) : List Value := l.flatMap ptCells
theorem ptsCells_snoc (l : List PT) (t : PT) : ptsCells (l ++ [t]) = ptsCells l ++ ptCells t := by simp [ptsCells]
/-- The scanner lies at block b, its tokens in a row of its own. -/
def ScS (B b : Nat) (s : ByteArray) (v : Value) (x : Sc) (w : World) : Prop :=
  Box b #[.string s, v, .bool x.rem, .int .i64 x.start, .int .i64 x.letters] 215 w ∧ w.ownsRow B 145 3 v x.toks.length (ptsCells x.toks)
/-- Nothing old is turned but the box b and the row of v; the row of v' is that, or new. -/
structure Fr (b : Nat) (v v' : Value) (w w' : World) : Prop where
  only : Only (fun k => k = b ∨ v.ownBlock = some k) w w'
  own : ∀ k, v'.ownBlock = some k → v.ownBlock = some k ∨ w.heap.size ≤ k
theorem Fr.refl (b : Nat) (v : Value) (w : World) : Fr b v v w w := ⟨Only.refl _ _, fun _ h => .inl h⟩
theorem Fr.trans {b : Nat} {u v t : Value} {w w1 w2 : World} (h : Fr b u v w w1) (k : Fr b v t w1 w2) : Fr b u t w w2 := by
  refine ⟨⟨k.only.os.trans h.only.os, k.only.tape.trans h.only.tape, k.only.output.trans h.only.output, Nat.le_trans h.only.size k.only.size, fun i hi hx => ?_⟩, fun i hi => ?_⟩
  · rw [k.only.block i (Nat.lt_of_lt_of_le hi h.only.size) ?_]
    · exact h.only.block i hi hx
    · rintro (q | q)
      · exact hx (.inl q)
      · rcases h.own i q with q | q
        · exact hx (.inr q)
        · omega
  · rcases k.own i hi with q | q
    · exact h.own i q
    · exact .inr (Nat.le_trans h.only.size q)
theorem Fr.drew {b : Nat} {v v' : Value} {w w' : World} (h : Fr b v v' w w') : Fr b v v' w w'.drew := ⟨h.only.drew, h.own⟩
theorem Fr.drewN {b : Nat} {v v' : Value} {w w' : World} (h : Fr b v v' w w') (n : Nat) : Fr b v v' w (w'.drewN n) := ⟨h.only.drewN n, h.own⟩
theorem Fr.alloc {b : Nat} {v v' : Value} {w w' : World} (h : Fr b v v' w w') (o : Obj) : Fr b v v' w (w'.alloc o) := ⟨h.only.alloc o, h.own⟩
theorem Fr.set {b : Nat} {v v' : Value} {w w' : World} (h : Fr b v v' w w') (i : Nat) (u : Value) : Fr b v v' w (w'.setCell ⟨b, i, none⟩ u) := ⟨h.only.setCell (.inl (.inl rfl)) u, h.own⟩
theorem ScS.ne {B b : Nat} {s : ByteArray} {v : Value} {x : Sc} {w : World} (h : ScS B b s v x w) : ∀ k, v.ownBlock = some k → k ≠ b := own_ne h.2 h.1 (by decide)
theorem ScS.only {B b : Nat} {s : ByteArray} {v : Value} {x : Sc} {w w' : World} (h : ScS B b s v x w) (ho : Only (fun _ => False) w w') : ScS B b s v x w' :=
  ⟨h.1.only ho (fun q => q), ownsRow_only h.2 ho (fun _ _ q => q)⟩
def pushT (x : Sc) (t : PT) : Sc := ⟨x.toks ++ [t], x.rem, x.start, x.letters⟩

theorem Tryz.infoPT : (Tryz.prog.info? 145).map (fun i => (i.zero, i.size, i.bytes)) = some (some (.agg #[.int .i64 0, .string ByteArray.empty, .int .i64 0]), 3, 32) := by kernel_rfl

theorem add_grow {B b : Nat} {s : ByteArray} {v v' : Value} {x : Sc} {t : PT} {w W w3 : World} (h : ScS B b s v x w) (hW : Only (fun _ => False) w W) (hown : w3.ownsRow B 145 3 v' (x.toks.length + 1) (ptsCells x.toks ++ ptCells t)) (hg : W.grownBy w3 v.ownBlock) (hnew : ∀ k, v'.ownBlock = some k → v.ownBlock = some k ∨ w.heap.size ≤ k) :
    ScS B b s v' (pushT x t) (w3.setCell ⟨b, 1, none⟩ v') ∧ Fr b v v' w (w3.setCell ⟨b, 1, none⟩ v') := by
  have hne := h.ne
  have ho3 : Only (fun k => v.ownBlock = some k) w w3 := Only.grown (hW.mono (fun _ _ q => q.elim)) hg (fun k hk => .inl hk)
  have hb3 := h.1.only ho3 (fun q => hne b q rfl)
  have ho4 := (Only.refl (fun k => k = b) w3).set_at 1 v'
  have hov : ∀ k, v'.ownBlock = some k → k ≠ b := own_ne hown hb3 (by decide)
  refine ⟨⟨?_, ?_⟩, ?_, hnew⟩
  · have := hb3.set 1 v'
    simpa [pushT] using this
  · have := ownsRow_only hown ho4 hov
    simpa [pushT, ptsCells_snoc] using this
  · exact (ho3.mono (fun k _ q => .inr q)).trans (ho4.mono (fun k _ q => .inl q))

set_option maxRecDepth 100000 in
set_option maxHeartbeats 1000000 in
theorem add_any (B b : Nat) (s : ByteArray) (v : Value) (x : Sc) (kind st en : Nat) (w : World) (_hs : s.size ≤ 4000) (h : ScS B b s v x w) (hB : B ≤ w.heap.size) (hse : st ≤ en) (hen : en ≤ s.size) (hm : x.toks.length ≤ 4001) :
    Calls Tryz.prog 101 #[.pointer (some ⟨b, 0, none⟩), .int .i64 kind, .int .i64 st, .int .i64 en] w fun e w' => e = .returned (.tuple #[]) ∧ ∃ v', ScS B b s v' (pushT x ⟨kind, s.extract st en, st⟩) w' ∧ Fr b v v' w w' := by
  obtain ⟨i0, hi, hz0, hz1, hz2⟩ := info_parts Tryz.infoPT
  have c0 := h.1.cell 0
  have c1 := h.1.cell 1
  have f1 := h.1.frozen 1
  simp only [List.getElem?_toArray, List.getElem?_cons_zero, List.getElem?_cons_succ] at c0 c1
  obtain ⟨sa, sl, sc, hsv⟩ := owns_form h.2
  subst hsv
  have lb := blk_lt h.1
  have hrow := h.2
  have HNE := hide1 h.ne
  have HS := hide1 h
  clear h
  go_enter Tryz.func101, Tryz.ntmps101
  go_region_law (refine step_append_own rfl _ _ 82 rfl B 145 i0 (.agg #[.int .i64 0, .string ByteArray.empty, .int .i64 0]) 3 32 Tryz.underlying82 hi hz0 hz1 hz2 rfl (by decide) _ _ _ rfl (hrow.alloc _) ⟨w.heap.size, 0, none⟩ 1 1 [.int .i64 kind, .string (s.extract st en), .int .i64 st] rfl rfl (cells_new rfl _ _) (fun u hu => by simp at hu; rcases hu with rfl | rfl | rfl <;> rfl) (by decide) (by unfold maxLen; omega) (by omega) (by simp; omega) ?_; intro v' w3 hown' hgrow3 hnew3; have q1 : w3.cell? ⟨b, 1, none⟩ = some (.slice sa sl sc) := (World.cell?_of_block (hgrow3.block b (by simp; omega) (fun h => HNE.out b h.symm rfl))).trans (by rw [← c1]; exact World.cell?_of_block (Below.heap_alloc _ _ _ lb)); have q2 : w3.frozen? ⟨b, 1, none⟩ = false := (World.frozen?_of_block (hgrow3.block b (by simp; omega) (fun h => HNE.out b h.symm rfl))).trans (by rw [← f1]; exact World.frozen?_of_block (Below.heap_alloc _ _ _ lb)); obtain ⟨va, vl, vc, rfl⟩ := owns_form hown')
  all_goals
    go_wp2_with fail
    go_end0
    refine ⟨rfl, .slice va vl vc, ?_⟩
    exact add_grow HS.out (((Only.refl _ _).alloc _).drew) hown' hgrow3 (fun k hk => (hnew3 k hk).imp id (fun q => by simp at q; omega))

end Go.Proofs.YtafjaljiliddnaaGreatDoor

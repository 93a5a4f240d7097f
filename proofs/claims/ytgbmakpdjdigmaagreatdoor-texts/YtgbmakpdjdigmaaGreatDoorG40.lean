/- ChC ChD: told at each. -/
import Derived.Test.YtgbmakpdjdigmaaGreatDoorG39

/- The reference's checks: declare: what it leaves. -/
namespace Go.Proofs.YtgbmakpdjdigmaaGreatDoor
open Go.RowKit

theorem Tryz.infoStr : (Tryz.prog.info? 9).map (fun i => (i.zero, i.size, i.bytes)) = some (some (.string ByteArray.empty), 1, 16) := by kernel_rfl
theorem flat_set_one {s : Nat} : ∀ {cs : List (List Value)}, (∀ c, c ∈ cs → c.length = s) → ∀ {i j : Nat} (hi : i < cs.length), j < s → ∀ u, cs.flatten.set (i * s + j) u = (cs.set i (cs[i].set j u)).flatten
  | [], _, _, _, hi, _, _ => by simp at hi
  | c :: cs, hs, i, j, hi, hj, u => by
    have hc := hs c (List.mem_cons_self ..)
    cases i with
    | zero =>
      simp only [Nat.zero_mul, Nat.zero_add, List.flatten_cons, List.set_cons_zero, List.getElem_cons_zero]
      rw [List.set_append_left _ _ (by omega)]
    | succ i =>
      simp only [List.flatten_cons, List.set_cons_succ, List.getElem_cons_succ]
      rw [List.set_append_right _ _ (by rw [hc, Nat.succ_mul]; omega), hc]
      have e : (i + 1) * s + j - s = i * s + j := by rw [Nat.succ_mul]; omega
      rw [e, flat_set_one (fun c hc => hs c (List.mem_cons_of_mem _ hc)) (by simpa using hi) hj u]
/-- A function with one variable more. -/
def moreV (f : RF) (s : ByteArray) : RF := { f with vars := f.vars ++ [s] }
theorem FnRow.decl {B : Nat} {w W w3 : World} {g l c inn : Nat} {fns : List RF} {vv vv' : Value} {s : ByteArray} (h : FnRow B w (.slice (some ⟨g, 0, none⟩) l c) fns) (hi : inn < fns.length) (hcell : w.cell? ⟨g, inn * 7 + 6, none⟩ = some vv)
    (hW : Only (fun _ => False) w W) (hg : W.grownBy w3 vv.ownBlock) (hown : w3.ownsRow B 9 1 vv' (fns[inn].vars.length + 1) (fns[inn].vars.map Value.string ++ [.string s])) (hnew : ∀ k, vv'.ownBlock = some k → vv.ownBlock = some k ∨ w.heap.size ≤ k) :
    FnRow B (w3.setCell ⟨g, inn * 7 + 6, none⟩ vv') (.slice (some ⟨g, 0, none⟩) l c) (fns.set inn (moreV fns[inn] s)) ∧ Only (fun k => k = g ∨ vv.ownBlock = some k) w (w3.setCell ⟨g, inn * 7 + 6, none⟩ vv') ∧ ∀ k, vv.ownBlock = some k → B ≤ k ∧ ∃ cs fz, w.heap[k]? = some (.cells cs 9 fz) := by
  obtain ⟨cs, hrow, hl, hrep, hap⟩ := h
  have hvl := own_len hrow
  subst hvl
  have hi' : inn < cs.length := by omega
  have h7 : ∀ x, x ∈ cs → x.length = 7 := by
    intro x hx
    obtain ⟨j, hj, rfl⟩ := List.mem_iff_getElem.1 hx
    obtain ⟨_, _, _, e, _⟩ := hrep j hj (by omega)
    rw [e]; rfl
  obtain ⟨tv, bv, v0, e, h1, h2, h3⟩ := hrep inn hi' hi
  have hv0 : v0 = vv := by
    have hc := hrow.cellAt (inn * 7 + 6) (by omega)
    rw [hc, flat_at h7 hi' (by omega), e] at hcell
    simpa [rfA] using hcell
  subst hv0
  have hvc : varV cs[inn] = v0 := by rw [e]; rfl
  have tstr : ∀ k, v0.ownBlock = some k → B ≤ k ∧ ∃ cs fz, w.heap[k]? = some (.cells cs 9 fz) := by
    intro k hk
    refine ⟨(h3.lt k hk).1, ?_⟩
    rcases h3.2 with ⟨q, _⟩ | ⟨g', cap', cur', hv, _, hh, _⟩
    · rw [q] at hk; simp [Value.ownBlock] at hk
    · rw [hv] at hk; simp [Value.ownBlock] at hk; subst hk; exact ⟨_, _, hh⟩
  obtain ⟨gc, hgc⟩ := own_blk hrow
  have hng : ∀ k, v0.ownBlock = some k → k ≠ g := own_ne h3 hgc (by decide)
  have ho3 : Only (fun k => v0.ownBlock = some k) w w3 := Only.grown (hW.mono (fun _ _ q => q.elim)) hg (fun k hk => .inl hk)
  have hset := (Only.refl (fun k => k = g) w3).set_at (inn * 7 + 6) vv'
  have hrow3 : w3.ownsRow B 116 7 (.slice (some ⟨g, 0, none⟩) fns.length c) fns.length cs.flatten := ownsRow_only hrow ho3 (fun k hk q => by
    simp [Value.ownBlock] at hk
    exact hng k q hk.symm)
  have hlg := (hrow.lt g rfl).2
  have hvg : ∀ k, vv'.ownBlock = some k → k ≠ g := fun k hk => by
    rcases hnew k hk with q | q
    · exact hng k q
    · omega
  have hgt : ∀ (k : Nat) (ds : Array Value) (t : TypeId) (fz : Nat × Nat), k = g → w3.heap[k]? = some (.cells ds t fz) → t ≠ 3 ∧ t ≠ 114 ∧ t ≠ 9 := by
    intro k ds t fz hk hc
    subst hk
    obtain ⟨gc3, hgc3⟩ := own_blk hrow3
    rw [hc] at hgc3
    simp only [Option.some.injEq, Obj.cells.injEq] at hgc3
    rw [hgc3.2.1]; decide
  refine ⟨⟨cs.set inn (cs[inn].set 6 vv'), ?_, by simp [hl], ?_, ?_⟩, ?_, tstr⟩
  · have := (hrow3.stored (inn * 7 + 6) vv').1
    rw [flat_set_one h7 hi' (by omega)] at this
    simpa using this
  · intro j h1' h2'
    by_cases hj : inn = j
    · subst hj
      simp only [List.getElem_set_self]
      refine ⟨tv, bv, vv', by rw [e]; rfl, ?_, ?_, ?_⟩
      · refine ownsRow_typed (ownsRow_typed h1 ho3 (fun k ds fz hk q => ?_)) hset (fun k ds fz hk q => (hgt k ds _ fz hk q).2.1 rfl)
        obtain ⟨_, ds', fz', q'⟩ := tstr k hk
        rw [q] at q'
        simp only [Option.some.injEq, Obj.cells.injEq] at q'
        exact absurd q'.2.1 (by decide)
      · refine ownsRow_typed (ownsRow_typed h2 ho3 (fun k ds fz hk q => ?_)) hset (fun k ds fz hk q => (hgt k ds _ fz hk q).1 rfl)
        obtain ⟨_, ds', fz', q'⟩ := tstr k hk
        rw [q] at q'
        simp only [Option.some.injEq, Obj.cells.injEq] at q'
        exact absurd q'.2.1 (by decide)
      · have := ownsRow_only hown hset hvg
        unfold StrsAt moreV
        simpa using this
    · simp only [List.getElem_set_ne hj]
      have hjl : j < cs.length := by simpa using h1'
      obtain ⟨tj, bj, vj, ej, j1, j2, j3⟩ := hrep j hjl (by omega)
      have hvj : varV cs[j] = vj := by rw [ej]; rfl
      refine ⟨tj, bj, vj, ej, ?_, ?_, ?_⟩
      · refine ownsRow_typed (ownsRow_typed j1 ho3 (fun k ds fz hk q => ?_)) hset (fun k ds fz hk q => (hgt k ds _ fz hk q).2.1 rfl)
        obtain ⟨_, ds', fz', q'⟩ := tstr k hk
        rw [q] at q'
        simp only [Option.some.injEq, Obj.cells.injEq] at q'
        exact absurd q'.2.1 (by decide)
      · refine ownsRow_typed (ownsRow_typed j2 ho3 (fun k ds fz hk q => ?_)) hset (fun k ds fz hk q => (hgt k ds _ fz hk q).1 rfl)
        obtain ⟨_, ds', fz', q'⟩ := tstr k hk
        rw [q] at q'
        simp only [Option.some.injEq, Obj.cells.injEq] at q'
        exact absurd q'.2.1 (by decide)
      · refine ownsRow_typed (ownsRow_only j3 ho3 (fun k hk q => ?_)) hset (fun k ds fz hk q => (hgt k ds _ fz hk q).2.2 rfl)
        exact hap inn j hi' hjl hj k (by rw [hvc]; exact q) (by rw [hvj]; exact hk)
  · intro i j hi1 hj1 hne k hk
    simp only [List.length_set] at hi1 hj1
    have hlt : ∀ m (hm : m < cs.length) k, (varV cs[m]).ownBlock = some k → k < w.heap.size := by
      intro m hm k hk
      obtain ⟨_, _, vm, em, _, _, m3⟩ := hrep m hm (by omega)
      rw [em] at hk
      exact (m3.lt k hk).2
    have hvn : varV (cs[inn].set 6 vv') = vv' := by rw [e]; rfl
    by_cases hi2 : inn = i
    · subst hi2
      rw [List.getElem_set_self, hvn] at hk
      rw [List.getElem_set_ne hne]
      intro q
      rcases hnew k hk with q' | q'
      · exact hap inn j hi' hj1 hne k (by rw [hvc]; exact q') q
      · have := hlt j hj1 k q; omega
    · rw [List.getElem_set_ne hi2] at hk
      by_cases hj2 : inn = j
      · subst hj2
        rw [List.getElem_set_self, hvn]
        intro q
        rcases hnew k q with q' | q'
        · exact hap inn i hi' hi1 hi2 k (by rw [hvc]; exact q') hk
        · have := hlt i hi1 k hk; omega
      · rw [List.getElem_set_ne hj2]
        exact hap i j hi1 hj1 hne k hk
  · exact (ho3.mono (fun k _ q => .inr q)).trans (hset.mono (fun k _ q => .inl q))

theorem RK.decl {pb wb B pl ca g l cc : Nat} {U : Nat → Prop} {sv : Value} {fns fns' : List RF} {fs : List FS} {c : CS} {vv : Value} {w w' : World} (K : RK pb wb B pl ca U (.slice (some ⟨g, 0, none⟩) l cc) sv fns fs c w) (hF : FnRow B w' (.slice (some ⟨g, 0, none⟩) l cc) fns') (ho : Only (fun k => k = g ∨ vv.ownBlock = some k) w w') (hs : ∀ k, vv.ownBlock = some k → B ≤ k ∧ ∃ cs fz, w.heap[k]? = some (.cells cs 9 fz)) :
    RK pb wb B pl ca U (.slice (some ⟨g, 0, none⟩) l cc) sv fns' fs c w' ∧ KFr wb B (.slice (some ⟨g, 0, none⟩) l cc) w w' := by
  have hfn := K.fn
  obtain ⟨cs, hrow, _⟩ := hfn
  obtain ⟨gc, hgc⟩ := own_blk hrow
  have ty : ∀ (k : Nat) (ds : Array Value) (t : TypeId) (fz : Nat × Nat), (k = g ∨ vv.ownBlock = some k) → w.heap[k]? = some (.cells ds t fz) → t = 116 ∨ t = 9 := by
    rintro k ds t fz (hk | hk) hc
    · subst hk
      rw [hc] at hgc
      simp only [Option.some.injEq, Obj.cells.injEq] at hgc
      exact .inl hgc.2.1
    · obtain ⟨_, ds', fz', q⟩ := hs k hk
      rw [hc] at q
      simp only [Option.some.injEq, Obj.cells.injEq] at q
      exact .inr q.2.1
  have hK := K.fne g rfl
  have nb : ∀ (b : Nat) (ds : Array Value) (t : TypeId), Box b ds t w → t ≠ 116 → t ≠ 9 → ¬ (b = g ∨ vv.ownBlock = some b) := fun b ds t hb h1 h2 q => (ty b ds t (0, 0) q hb).elim h1 h2
  refine ⟨⟨K.pr.box.only ho (nb _ _ _ K.pr.box (by decide) (by decide)), hF, K.st.only ho (fun k hk q => ?_) (fun k ds t fz hk hc => ?_), Box.only K.wr ho (nb _ _ _ K.wr (by decide) (by decide))⟩, ho.mono (fun k _ q => ?_)⟩
  · obtain ⟨cs', hrow', _⟩ := K.st
    rcases hrow'.2 with ⟨q', _⟩ | ⟨g', cap', cur', hv, _, hh, _⟩
    · rw [q'] at hk; simp [Value.ownBlock] at hk
    · rw [hv] at hk
      simp [Value.ownBlock] at hk
      subst hk
      exact (ty _ _ _ _ q hh).elim (by decide) (by decide)
  · rcases ty k ds t fz hk hc with e | e <;> (rw [e]; decide)
  · rcases q with q | q
    · exact .inr (.inl (by rw [q]; rfl))
    · exact .inr (.inr (hs k q))
theorem Only.cell {X : Nat → Prop} {w w' : World} {b : Nat} (ho : Only X w w') (i : Nat) (hb : b < w.heap.size) (hx : ¬ X b) : w'.cell? ⟨b, i, none⟩ = w.cell? ⟨b, i, none⟩ := World.cell?_of_block (ho.block b hb hx)

set_option maxRecDepth 100000 in
set_option maxHeartbeats 2000000 in
theorem rdeclare_any (pb wb B pl ca inn : Nat) (U : Nat → Prop) (fv sv : Value) (fns : List RF) (fs : List FS) (c : CS) (t : Tk) (w : World) (K : RK pb wb B pl ca U fv sv fns fs c w) (hi : inn < fns.length) (hn : fns.length ≤ 4001) (hv : fns[inn].vars.length ≤ 4001) :
    Calls Tryz.prog 48 #[.pointer (some ⟨pb, 0, none⟩), .pointer (some ⟨wb, 0, none⟩), .int .i64 inn, tkV t] w fun e w' => e = .returned (.tuple #[]) ∧ RK pb wb B pl ca U fv sv (fns.set inn (moreV fns[inn] t.text)) fs (declR fns[inn].vars t c) w' ∧ KFr wb B fv w w' := by
  obtain ⟨i0, hi0, hz0, hz1, hz2⟩ := info_parts Tryz.infoStr
  have p0 := K.pr.box.cell 0
  simp at p0
  have lp := blk_lt K.pr
  have lw := blk_lt K.wr
  have hfl := K.fn
  obtain ⟨cs, p1, _⟩ := hfl
  obtain ⟨va, vl, vc, rfl⟩ := owns_form p1
  have hvl := own_len p1
  subst hvl
  obtain ⟨g, rfl⟩ := own_some p1 (by omega)
  have lg := (p1.lt g rfl).2
  obtain ⟨tv, bv, vv, hc, _, _, hvv⟩ := K.fn.get hi
  have c6 := hc 6 (by omega)
  simp only [rfA, List.getElem?_toArray, List.getElem?_cons_zero, List.getElem?_cons_succ] at c6
  obtain ⟨xa, xl, xc, rfl⟩ := owns_form hvv
  have hxl := own_len hvv
  have hii : (inn : Int) < (fns.length : Int) := by omega
  have HA := hide1 ((Only.refl (fun _ => False) w).alloc (.cells #[.string t.text, .int .i64 t.pos, .int .i64 t.sort] 114))
  have HT := hide1 (Box.new w #[.string t.text, .int .i64 t.pos, .int .i64 t.sort] 114)
  have HK := hide1 K
  have HVV := hide1 hvv
  have hgw := (K.fne g rfl).1
  clear hc p1 K hvv
  generalize hvs : fns[inn].vars = vs at *
  have HVS := hide1 hvs
  clear hvs
  subst hxl
  unfold tkV
  by_cases h12 : 12 ≤ vs.length
  · have k12 : decide ((12 : Int) ≤ (vs.length : Int)) = true := by simp; omega
    by_cases h0 : 0 ≤ fiR vs t.text 0
    · have hx := h0
      have e0 : declR vs t c = addR 5 t.pos (addR 4 t.pos c) := by simp only [declR, if_pos h12, if_pos h0]
      have h0' : decide ((0 : Int) ≤ fiR vs t.text 0) = true := by simp; omega
      rw [e0]
      clear e0
      go_enter Tryz.func48, Tryz.ntmps48
      go_wp2_with (go_at_call 46; refine (radd_any wb 4 t.pos c _ (HK.out.still HA.out).wr).mono ?_; rintro e w2 ⟨rfl, hr2, ho2⟩)
      have K2 := hide1 ((HK.out.still HA.out).add hr2 ho2)
      have B2 := hide1 (Box.only HT.out ho2 (by omega))
      have F2 := hide1 ((KFr.ofStill (wb := wb) (B := B) (fv := (.slice (some ⟨g, 0, none⟩) fns.length vc)) HA.out).trans (KFr.ofOnly ho2))
      have c6' := (ho2.cell (inn * 7 + 6) (by simp; omega) hgw).trans ((HA.out.cell (inn * 7 + 6) lg (fun q => q)).trans c6)
      have s0' := B2.out.cell 0
      have s1' := B2.out.cell 1
      simp only [List.getElem?_toArray, List.getElem?_cons_zero, List.getElem?_cons_succ] at s0' s1'
      have hq : ∀ n : Nat, StrsAt B (w2.drewN n) (.slice xa vs.length xc) vs := fun n => ownsRow_only (X := fun _ => False) (ownsRow_typed (ownsRow_only HVV.out HA.out (fun _ _ q => q)) ho2 (fun k ds fz hk => typ_ne (HK.out.still HA.out).wr (by decide) k ds fz hk)) ((Only.refl _ w2).drewN n) (fun _ _ q => q)
      have lg' : g < w2.heap.size := by have := ho2.size; simp at this; omega
      have lw' : wb < w2.heap.size := by have := ho2.size; simp at this; omega
      have lt' := blk_lt B2.out
      clear hr2 ho2
      go_quiet ((go_at_call 92; refine Calls.quiet_of_same (find_any B _ _ t.text _ (hq _) hv)))
      have D2 : Hid (Only (fun _ => False) w2 (w2.drewN nq)) := (Only.refl _ _).drewN nq
      go_wp2_with (go_at_call 46; refine (radd_any wb 5 t.pos (addR 4 t.pos c) _ (K2.out.still D2.out).wr).mono ?_; rintro e W ⟨rfl, hr3, ho3⟩)
      have KT := hide1 ((K2.out.still D2.out).add hr3 ho3)
      have BT := hide1 (Box.only (Box.only B2.out D2.out (fun q => q)) ho3 (by omega))
      have FT := hide1 ((F2.out.trans (KFr.ofStill D2.out)).trans (KFr.ofOnly ho3))
      clear hr3 ho3
      have hfl := KT.out.fn
      obtain ⟨cs2, p2, _⟩ := hfl
      have lg2 := (p2.lt g rfl).2
      obtain ⟨tv2, bv2, vv2, hc2, _, _, hvv2⟩ := KT.out.fn.get hi
      have d6 := hc2 6 (by omega)
      simp only [rfA, List.getElem?_toArray, List.getElem?_cons_zero, List.getElem?_cons_succ] at d6
      have df := p2.frozenAt (inn * 7 + 6)
      rw [HVS.out] at hvv2
      obtain ⟨ya, yl, yc, rfl⟩ := owns_form hvv2
      have hyl := own_len hvv2
      subst hyl
      obtain ⟨gc2, hgc2⟩ := own_blk p2
      have NG := hide1 (own_ne hvv2 hgc2 (by decide))
      have HV2 := hide1 hvv2
      have u0 := BT.out.cell 0
      simp only [List.getElem?_toArray, List.getElem?_cons_zero] at u0
      have lt0 := blk_lt BT.out
      have hsz : B ≤ W.heap.size := by have := (p2.lt g rfl).1; omega
      clear hc2 p2 hvv2
      go_region_law (refine step_append_own rfl _ _ 33 rfl B 9 i0 (.string ByteArray.empty) 1 16 Tryz.underlying33 hi0 hz0 hz1 hz2 rfl (by decide) _ _ _ rfl (HV2.out.alloc _) ⟨W.heap.size, 0, none⟩ 1 1 [.string t.text] rfl rfl (cells_new rfl _ _) (fun x hx => by simp at hx; subst hx; rfl) (by decide) (by unfold maxLen; omega) (by omega) (by simp; omega) ?_; intro v' w5 hown' hgrow5 hnew5; have q1 : w5.cell? ⟨g, inn * 7 + 6, none⟩ = some (.slice ya vs.length yc) := (World.cell?_of_block (hgrow5.block g (by simp; omega) (fun h => NG.out g h.symm rfl))).trans (by rw [← d6]; exact World.cell?_of_block (Below.heap_alloc _ _ _ lg2)); have q2 : w5.frozen? ⟨g, inn * 7 + 6, none⟩ = false := (World.frozen?_of_block (hgrow5.block g (by simp; omega) (fun h => NG.out g h.symm rfl))).trans (by rw [← df]; exact World.frozen?_of_block (Below.heap_alloc _ _ _ lg2)); obtain ⟨va', vl', vc', rfl⟩ := owns_form hown')
      all_goals
        have hgr : (W.alloc (.cells #[.string t.text] 9)).drew.grownBy w5 (Value.ownBlock (.slice ya vs.length yc)) := hgrow5
        have hne5 : ∀ k, Value.ownBlock (.slice va' vl' vc') = some k → Value.ownBlock (.slice ya vs.length yc) = some k ∨ W.heap.size ≤ k := fun k hk => (hnew5 k hk).imp (fun q => q) (fun q => by simp at q; omega)
        have FD := FnRow.decl KT.out.fn hi d6 (((Only.refl _ W).alloc _).drew) hgr (by rw [HVS.out]; exact hown') hne5
        have KR := KT.out.decl FD.1 FD.2.1 FD.2.2
        clear hgrow5 hnew5
        go_wp2_with fail
        go_end0
        exact ⟨rfl, KR.1, FT.out.trans KR.2⟩
    · have hx := h0
      have e0 : declR vs t c = addR 4 t.pos c := by simp only [declR, if_pos h12, if_neg h0]
      have h0' : decide ((0 : Int) ≤ fiR vs t.text 0) = false := by simp; omega
      rw [e0]
      clear e0
      go_enter Tryz.func48, Tryz.ntmps48
      go_wp2_with (go_at_call 46; refine (radd_any wb 4 t.pos c _ (HK.out.still HA.out).wr).mono ?_; rintro e w2 ⟨rfl, hr2, ho2⟩)
      have K2 := hide1 ((HK.out.still HA.out).add hr2 ho2)
      have B2 := hide1 (Box.only HT.out ho2 (by omega))
      have F2 := hide1 ((KFr.ofStill (wb := wb) (B := B) (fv := (.slice (some ⟨g, 0, none⟩) fns.length vc)) HA.out).trans (KFr.ofOnly ho2))
      have c6' := (ho2.cell (inn * 7 + 6) (by simp; omega) hgw).trans ((HA.out.cell (inn * 7 + 6) lg (fun q => q)).trans c6)
      have s0' := B2.out.cell 0
      have s1' := B2.out.cell 1
      simp only [List.getElem?_toArray, List.getElem?_cons_zero, List.getElem?_cons_succ] at s0' s1'
      have hq : ∀ n : Nat, StrsAt B (w2.drewN n) (.slice xa vs.length xc) vs := fun n => ownsRow_only (X := fun _ => False) (ownsRow_typed (ownsRow_only HVV.out HA.out (fun _ _ q => q)) ho2 (fun k ds fz hk => typ_ne (HK.out.still HA.out).wr (by decide) k ds fz hk)) ((Only.refl _ w2).drewN n) (fun _ _ q => q)
      have lg' : g < w2.heap.size := by have := ho2.size; simp at this; omega
      have lw' : wb < w2.heap.size := by have := ho2.size; simp at this; omega
      have lt' := blk_lt B2.out
      clear hr2 ho2
      go_quiet ((go_at_call 92; refine Calls.quiet_of_same (find_any B _ _ t.text _ (hq _) hv)))
      have D2 : Hid (Only (fun _ => False) w2 (w2.drewN nq)) := (Only.refl _ _).drewN nq
      go_wp2
      have KT := hide1 (K2.out.still D2.out)
      have BT := hide1 (Box.only B2.out D2.out (fun q => q))
      have FT := hide1 (F2.out.trans (KFr.ofStill D2.out))
      generalize w2.drewN nq = W at KT BT FT ⊢
      have hfl := KT.out.fn
      obtain ⟨cs2, p2, _⟩ := hfl
      have lg2 := (p2.lt g rfl).2
      obtain ⟨tv2, bv2, vv2, hc2, _, _, hvv2⟩ := KT.out.fn.get hi
      have d6 := hc2 6 (by omega)
      simp only [rfA, List.getElem?_toArray, List.getElem?_cons_zero, List.getElem?_cons_succ] at d6
      have df := p2.frozenAt (inn * 7 + 6)
      rw [HVS.out] at hvv2
      obtain ⟨ya, yl, yc, rfl⟩ := owns_form hvv2
      have hyl := own_len hvv2
      subst hyl
      obtain ⟨gc2, hgc2⟩ := own_blk p2
      have NG := hide1 (own_ne hvv2 hgc2 (by decide))
      have HV2 := hide1 hvv2
      have u0 := BT.out.cell 0
      simp only [List.getElem?_toArray, List.getElem?_cons_zero] at u0
      have lt0 := blk_lt BT.out
      have hsz : B ≤ W.heap.size := by have := (p2.lt g rfl).1; omega
      clear hc2 p2 hvv2
      go_region_law (refine step_append_own rfl _ _ 33 rfl B 9 i0 (.string ByteArray.empty) 1 16 Tryz.underlying33 hi0 hz0 hz1 hz2 rfl (by decide) _ _ _ rfl (HV2.out.alloc _) ⟨W.heap.size, 0, none⟩ 1 1 [.string t.text] rfl rfl (cells_new rfl _ _) (fun x hx => by simp at hx; subst hx; rfl) (by decide) (by unfold maxLen; omega) (by omega) (by simp; omega) ?_; intro v' w5 hown' hgrow5 hnew5; have q1 : w5.cell? ⟨g, inn * 7 + 6, none⟩ = some (.slice ya vs.length yc) := (World.cell?_of_block (hgrow5.block g (by simp; omega) (fun h => NG.out g h.symm rfl))).trans (by rw [← d6]; exact World.cell?_of_block (Below.heap_alloc _ _ _ lg2)); have q2 : w5.frozen? ⟨g, inn * 7 + 6, none⟩ = false := (World.frozen?_of_block (hgrow5.block g (by simp; omega) (fun h => NG.out g h.symm rfl))).trans (by rw [← df]; exact World.frozen?_of_block (Below.heap_alloc _ _ _ lg2)); obtain ⟨va', vl', vc', rfl⟩ := owns_form hown')
      all_goals
        have hgr : (W.alloc (.cells #[.string t.text] 9)).drew.grownBy w5 (Value.ownBlock (.slice ya vs.length yc)) := hgrow5
        have hne5 : ∀ k, Value.ownBlock (.slice va' vl' vc') = some k → Value.ownBlock (.slice ya vs.length yc) = some k ∨ W.heap.size ≤ k := fun k hk => (hnew5 k hk).imp (fun q => q) (fun q => by simp at q; omega)
        have FD := FnRow.decl KT.out.fn hi d6 (((Only.refl _ W).alloc _).drew) hgr (by rw [HVS.out]; exact hown') hne5
        have KR := KT.out.decl FD.1 FD.2.1 FD.2.2
        clear hgrow5 hnew5
        go_wp2_with fail
        go_end0
        exact ⟨rfl, KR.1, FT.out.trans KR.2⟩
  · have k12 : decide ((12 : Int) ≤ (vs.length : Int)) = false := by simp; omega
    by_cases h0 : 0 ≤ fiR vs t.text 0
    · have hx := h0
      have e0 : declR vs t c = addR 5 t.pos (c) := by simp only [declR, if_neg h12, if_pos h0]
      have h0' : decide ((0 : Int) ≤ fiR vs t.text 0) = true := by simp; omega
      rw [e0]
      clear e0
      go_enter Tryz.func48, Tryz.ntmps48
      go_wp2
      have K2 := hide1 (HK.out.still HA.out)
      have B2 := HT
      have F2 := hide1 (KFr.ofStill (wb := wb) (B := B) (fv := (.slice (some ⟨g, 0, none⟩) fns.length vc)) HA.out)
      have hq : ∀ n : Nat, StrsAt B ((w.alloc (.cells #[.string t.text, .int .i64 t.pos, .int .i64 t.sort] 114)).drewN n) (.slice xa vs.length xc) vs := fun n => ownsRow_only HVV.out (HA.out.drewN n) (fun _ _ q => q)
      go_quiet ((go_at_call 92; refine Calls.quiet_of_same (find_any B _ _ t.text _ (hq _) hv)))
      have D2 : Hid (Only (fun _ => False) (w.alloc (.cells #[.string t.text, .int .i64 t.pos, .int .i64 t.sort] 114)) ((w.alloc (.cells #[.string t.text, .int .i64 t.pos, .int .i64 t.sort] 114)).drewN nq)) := (Only.refl _ _).drewN nq
      go_wp2_with (go_at_call 46; refine (radd_any wb 5 t.pos (c) _ (K2.out.still D2.out).wr).mono ?_; rintro e W ⟨rfl, hr3, ho3⟩)
      have KT := hide1 ((K2.out.still D2.out).add hr3 ho3)
      have BT := hide1 (Box.only (Box.only B2.out D2.out (fun q => q)) ho3 (by omega))
      have FT := hide1 ((F2.out.trans (KFr.ofStill D2.out)).trans (KFr.ofOnly ho3))
      clear hr3 ho3
      have hfl := KT.out.fn
      obtain ⟨cs2, p2, _⟩ := hfl
      have lg2 := (p2.lt g rfl).2
      obtain ⟨tv2, bv2, vv2, hc2, _, _, hvv2⟩ := KT.out.fn.get hi
      have d6 := hc2 6 (by omega)
      simp only [rfA, List.getElem?_toArray, List.getElem?_cons_zero, List.getElem?_cons_succ] at d6
      have df := p2.frozenAt (inn * 7 + 6)
      rw [HVS.out] at hvv2
      obtain ⟨ya, yl, yc, rfl⟩ := owns_form hvv2
      have hyl := own_len hvv2
      subst hyl
      obtain ⟨gc2, hgc2⟩ := own_blk p2
      have NG := hide1 (own_ne hvv2 hgc2 (by decide))
      have HV2 := hide1 hvv2
      have u0 := BT.out.cell 0
      simp only [List.getElem?_toArray, List.getElem?_cons_zero] at u0
      have lt0 := blk_lt BT.out
      have hsz : B ≤ W.heap.size := by have := (p2.lt g rfl).1; omega
      clear hc2 p2 hvv2
      go_region_law (refine step_append_own rfl _ _ 33 rfl B 9 i0 (.string ByteArray.empty) 1 16 Tryz.underlying33 hi0 hz0 hz1 hz2 rfl (by decide) _ _ _ rfl (HV2.out.alloc _) ⟨W.heap.size, 0, none⟩ 1 1 [.string t.text] rfl rfl (cells_new rfl _ _) (fun x hx => by simp at hx; subst hx; rfl) (by decide) (by unfold maxLen; omega) (by omega) (by simp; omega) ?_; intro v' w5 hown' hgrow5 hnew5; have q1 : w5.cell? ⟨g, inn * 7 + 6, none⟩ = some (.slice ya vs.length yc) := (World.cell?_of_block (hgrow5.block g (by simp; omega) (fun h => NG.out g h.symm rfl))).trans (by rw [← d6]; exact World.cell?_of_block (Below.heap_alloc _ _ _ lg2)); have q2 : w5.frozen? ⟨g, inn * 7 + 6, none⟩ = false := (World.frozen?_of_block (hgrow5.block g (by simp; omega) (fun h => NG.out g h.symm rfl))).trans (by rw [← df]; exact World.frozen?_of_block (Below.heap_alloc _ _ _ lg2)); obtain ⟨va', vl', vc', rfl⟩ := owns_form hown')
      all_goals
        have hgr : (W.alloc (.cells #[.string t.text] 9)).drew.grownBy w5 (Value.ownBlock (.slice ya vs.length yc)) := hgrow5
        have hne5 : ∀ k, Value.ownBlock (.slice va' vl' vc') = some k → Value.ownBlock (.slice ya vs.length yc) = some k ∨ W.heap.size ≤ k := fun k hk => (hnew5 k hk).imp (fun q => q) (fun q => by simp at q; omega)
        have FD := FnRow.decl KT.out.fn hi d6 (((Only.refl _ W).alloc _).drew) hgr (by rw [HVS.out]; exact hown') hne5
        have KR := KT.out.decl FD.1 FD.2.1 FD.2.2
        clear hgrow5 hnew5
        go_wp2_with fail
        go_end0
        exact ⟨rfl, KR.1, FT.out.trans KR.2⟩
    · have hx := h0
      have e0 : declR vs t c = c := by simp only [declR, if_neg h12, if_neg h0]
      have h0' : decide ((0 : Int) ≤ fiR vs t.text 0) = false := by simp; omega
      rw [e0]
      clear e0
      go_enter Tryz.func48, Tryz.ntmps48
      go_wp2
      have K2 := hide1 (HK.out.still HA.out)
      have B2 := HT
      have F2 := hide1 (KFr.ofStill (wb := wb) (B := B) (fv := (.slice (some ⟨g, 0, none⟩) fns.length vc)) HA.out)
      have hq : ∀ n : Nat, StrsAt B ((w.alloc (.cells #[.string t.text, .int .i64 t.pos, .int .i64 t.sort] 114)).drewN n) (.slice xa vs.length xc) vs := fun n => ownsRow_only HVV.out (HA.out.drewN n) (fun _ _ q => q)
      go_quiet ((go_at_call 92; refine Calls.quiet_of_same (find_any B _ _ t.text _ (hq _) hv)))
      have D2 : Hid (Only (fun _ => False) (w.alloc (.cells #[.string t.text, .int .i64 t.pos, .int .i64 t.sort] 114)) ((w.alloc (.cells #[.string t.text, .int .i64 t.pos, .int .i64 t.sort] 114)).drewN nq)) := (Only.refl _ _).drewN nq
      go_wp2
      have KT := hide1 (K2.out.still D2.out)
      have BT := hide1 (Box.only B2.out D2.out (fun q => q))
      have FT := hide1 (F2.out.trans (KFr.ofStill D2.out))
      generalize (w.alloc (.cells #[.string t.text, .int .i64 t.pos, .int .i64 t.sort] 114)).drewN nq = W at KT BT FT ⊢
      have hfl := KT.out.fn
      obtain ⟨cs2, p2, _⟩ := hfl
      have lg2 := (p2.lt g rfl).2
      obtain ⟨tv2, bv2, vv2, hc2, _, _, hvv2⟩ := KT.out.fn.get hi
      have d6 := hc2 6 (by omega)
      simp only [rfA, List.getElem?_toArray, List.getElem?_cons_zero, List.getElem?_cons_succ] at d6
      have df := p2.frozenAt (inn * 7 + 6)
      rw [HVS.out] at hvv2
      obtain ⟨ya, yl, yc, rfl⟩ := owns_form hvv2
      have hyl := own_len hvv2
      subst hyl
      obtain ⟨gc2, hgc2⟩ := own_blk p2
      have NG := hide1 (own_ne hvv2 hgc2 (by decide))
      have HV2 := hide1 hvv2
      have u0 := BT.out.cell 0
      simp only [List.getElem?_toArray, List.getElem?_cons_zero] at u0
      have lt0 := blk_lt BT.out
      have hsz : B ≤ W.heap.size := by have := (p2.lt g rfl).1; omega
      clear hc2 p2 hvv2
      go_region_law (refine step_append_own rfl _ _ 33 rfl B 9 i0 (.string ByteArray.empty) 1 16 Tryz.underlying33 hi0 hz0 hz1 hz2 rfl (by decide) _ _ _ rfl (HV2.out.alloc _) ⟨W.heap.size, 0, none⟩ 1 1 [.string t.text] rfl rfl (cells_new rfl _ _) (fun x hx => by simp at hx; subst hx; rfl) (by decide) (by unfold maxLen; omega) (by omega) (by simp; omega) ?_; intro v' w5 hown' hgrow5 hnew5; have q1 : w5.cell? ⟨g, inn * 7 + 6, none⟩ = some (.slice ya vs.length yc) := (World.cell?_of_block (hgrow5.block g (by simp; omega) (fun h => NG.out g h.symm rfl))).trans (by rw [← d6]; exact World.cell?_of_block (Below.heap_alloc _ _ _ lg2)); have q2 : w5.frozen? ⟨g, inn * 7 + 6, none⟩ = false := (World.frozen?_of_block (hgrow5.block g (by simp; omega) (fun h => NG.out g h.symm rfl))).trans (by rw [← df]; exact World.frozen?_of_block (Below.heap_alloc _ _ _ lg2)); obtain ⟨va', vl', vc', rfl⟩ := owns_form hown')
      all_goals
        have hgr : (W.alloc (.cells #[.string t.text] 9)).drew.grownBy w5 (Value.ownBlock (.slice ya vs.length yc)) := hgrow5
        have hne5 : ∀ k, Value.ownBlock (.slice va' vl' vc') = some k → Value.ownBlock (.slice ya vs.length yc) = some k ∨ W.heap.size ≤ k := fun k hk => (hnew5 k hk).imp (fun q => q) (fun q => by simp at q; omega)
        have FD := FnRow.decl KT.out.fn hi d6 (((Only.refl _ W).alloc _).drew) hgr (by rw [HVS.out]; exact hown') hne5
        have KR := KT.out.decl FD.1 FD.2.1 FD.2.2
        clear hgrow5 hnew5
        go_wp2_with fail
        go_end0
        exact ⟨rfl, KR.1, FT.out.trans KR.2⟩

end Go.Proofs.YtgbmakpdjdigmaaGreatDoor

/- The reference's checks: second: what it leaves. -/
namespace Go.Proofs.YtgbmakpdjdigmaaGreatDoor
open Go.RowKit

/-- What stands behind the first name of a statement. -/
def secR (fns : List RF) (vs : List ByteArray) (u : FS) (c : CS) : CS :=
  if u.kind = 2 then c else
  u.args.foldl (fun c t => varR vs t c) (if u.kind = 6 then funR fns u.q (-1) c else if u.kind = 8 then funR fns u.q u.args.length c else varR vs u.q c)
/-- What the loop of second stands in. -/
structure SeF (pb wb B pl ca : Nat) (U : Nat → Prop) (fv sv : Value) (fns : List RF) (fs : List FS) (sb : Nat) (sc : Array Value) (av : Value) (args : List Tk) (c : CS) (w w' : World) : Prop where
  k : RK pb wb B pl ca U fv sv fns fs c w'
  box : Box sb sc 183 w'
  row : TksAt B w' av args
  fr : KFr wb B fv w w'
theorem SeF.call {pb wb B pl ca : Nat} {U : Nat → Prop} {fv sv : Value} {fns : List RF} {fs : List FS} {sb : Nat} {sc : Array Value} {av : Value} {args : List Tk} {c c' : CS} {w w1 w2 : World} (h : SeF pb wb B pl ca U fv sv fns fs sb sc av args c w w1) (hk : RK pb wb B pl ca U fv sv fns fs c' w2) (hf : KFr wb B fv w1 w2) (h1 : sb ≠ wb) (h2 : fv.ownBlock ≠ some sb) : SeF pb wb B pl ca U fv sv fns fs sb sc av args c' w w2 :=
  ⟨hk, hf.box h.box h1 h2 (by decide), hf.row h.row h.k.wr h.k.fn (by decide) (by decide) (by decide), h.fr.trans hf⟩
theorem SeF.still {pb wb B pl ca : Nat} {U : Nat → Prop} {fv sv : Value} {fns : List RF} {fs : List FS} {sb : Nat} {sc : Array Value} {av : Value} {args : List Tk} {c : CS} {w w1 w2 : World} (h : SeF pb wb B pl ca U fv sv fns fs sb sc av args c w w1) (ho : Only (fun _ => False) w1 w2) : SeF pb wb B pl ca U fv sv fns fs sb sc av args c w w2 :=
  ⟨h.k.still ho, h.box.only ho (fun q => q), ownsRow_only h.row ho (fun _ _ q => q), h.fr.trans (KFr.ofStill ho)⟩
theorem tksCells_cell {B : Nat} {w : World} {g l c : Nat} {args : List Tk} (h : TksAt B w (.slice (some ⟨g, 0, none⟩) l c) args) {i : Nat} (hi : i < args.length) : w.cell? ⟨g, i * 3, none⟩ = some (.string (tokAt args i).text) ∧ w.cell? ⟨g, i * 3 + 1, none⟩ = some (.int .i64 (tokAt args i).pos) ∧ w.cell? ⟨g, i * 3 + 2, none⟩ = some (.int .i64 (tokAt args i).sort) := by
  have hl := own_len h
  subst hl
  have hc := tksCells_at hi
  unfold TksAt at h
  exact ⟨by rw [h.cellAt _ (by omega)]; exact hc.1, by rw [h.cellAt _ (by omega)]; exact hc.2.1, by rw [h.cellAt _ (by omega)]; exact hc.2.2⟩
theorem foldT_step {B : Type} (f : B → Tk → B) (l : List Tk) (k : Nat) (h : k < l.length) (x : B) : (l.drop k).foldl f x = (l.drop (k + 1)).foldl f (f x (tokAt l k)) := by
  rw [List.drop_eq_getElem_cons h]
  have : tokAt l k = l[k] := by unfold tokAt; rw [List.getElem?_eq_getElem h]; rfl
  rw [this]; rfl

set_option maxRecDepth 100000 in
set_option maxHeartbeats 2000000 in
theorem second_any (pb wb B pl ca : Nat) (U : Nat → Prop) (fv sv : Value) (fns : List RF) (fs : List FS) (c : CS) (u : FS) (av bv ov : Value) (vs : List ByteArray) (w : World) (K : RK pb wb B pl ca U fv sv fns fs c w) (hav : TksAt B w av u.args) (hbv : ∃ a l c, bv = .slice a l c) (hov : ∃ a l c, ov = .slice a l c) (hin : u.inn < fns.length) (hn : fns.length ≤ 4001) (hvs : fns[u.inn].vars = vs) (hv : vs.length ≤ 4001) (ha : u.args.length ≤ 4001) :
    Calls Tryz.prog 94 #[.pointer (some ⟨pb, 0, none⟩), .pointer (some ⟨wb, 0, none⟩), .agg (fsA u av bv ov)] w fun e w' => e = .returned (.tuple #[]) ∧ RK pb wb B pl ca U fv sv fns fs (secR fns vs u c) w' ∧ KFr wb B fv w w' := by
  obtain ⟨aa, al, ac, rfl⟩ := owns_form hav
  have hal := own_len hav
  subst hal
  obtain ⟨ba, bl, bc, rfl⟩ := hbv
  obtain ⟨oa, ol, oc, rfl⟩ := hov
  obtain ⟨fa, fl, fc, rfl⟩ : ∃ a l c, fv = .slice a l c := by obtain ⟨_, h, _⟩ := K.fn; exact owns_form h
  have lw := blk_lt K.wr
  have hsw : w.heap.size ≠ wb := by omega
  have hsf : Value.ownBlock (.slice fa fl fc) ≠ some w.heap.size := fun q => by obtain ⟨_, h, _⟩ := K.fn; have := (h.lt _ q).2; omega
  have hlp := blk_lt K.pr
  have S0 : Hid (SeF pb wb B pl ca U (.slice fa fl fc) sv fns fs w.heap.size (fsA u (.slice aa u.args.length ac) (.slice ba bl bc) (.slice oa ol oc)) (.slice aa u.args.length ac) u.args c w (w.alloc (.cells (fsA u (.slice aa u.args.length ac) (.slice ba bl bc) (.slice oa ol oc)) 183))) := by
    have ho := (Only.refl (fun _ => False) w).alloc (.cells (fsA u (.slice aa u.args.length ac) (.slice ba bl bc) (.slice oa ol oc)) 183)
    exact ⟨K.still ho, Box.new _ _ _, ownsRow_only hav ho (fun _ _ q => q), KFr.ofStill ho⟩
  have HVS := hide1 hvs
  clear K hav hvs
  unfold fsA
  by_cases h2 : u.kind = 2
  · have e0 : secR fns vs u c = c := by simp [secR, h2]
    rw [e0]
    have k2 : ((u.kind : Int) == 2) = true := by simp [h2]
    clear e0 h2
    go_enter Tryz.func94, Tryz.ntmps94
    go_wp2
    refine bodyPost_ret (v := .tuple #[]) (by simp [results, Tryz.results94, go_sem]) rfl ⟨rfl, S0.out.k, S0.out.fr⟩
  have k2 : ((u.kind : Int) == 2) = false := by simp; omega
  generalize hV : secR fns vs u c = V
  unfold secR at hV
  rw [if_neg h2] at hV
  by_cases h6 : u.kind = 6
  · rw [if_pos h6] at hV
    have HV : Hid ((u.args.drop 0).foldl (fun c t => varR vs t c) (funR fns u.q (-1) c) = V) := hV
    have k6 : ((u.kind : Int) == 6) = true := by simp [h6]
    clear hV h2 h6
    go_enter Tryz.func94, Tryz.ntmps94
    go_wp2_with (go_at_call 129; refine (rfunction_any pb wb B pl ca U _ sv fns fs c u.q (-1) _ S0.out.k hn (.inl rfl)).mono ?_; rintro e w1 ⟨rfl, hk1, hf1⟩)
    have S1 := hide1 (S0.out.call hk1 hf1 hsw hsf)
    clear hk1 hf1 S0
    go_loopw [6] (fun i wr => ∃ (k : Nat) (c' : CS), k ≤ u.args.length ∧ i = .int .i64 k ∧ Hid (SeF pb wb B pl ca U (.slice fa fl fc) sv fns fs w.heap.size (fsA u (.slice aa u.args.length ac) (.slice ba bl bc) (.slice oa ol oc)) (.slice aa u.args.length ac) u.args c' w wr) ∧ Hid ((u.args.drop k).foldl (fun c t => varR vs t c) c' = V)) (fun i _ => u.args.length - (intOf i).toNat)
    case atStart => exact ⟨0, _, by omega, rfl, S1, HV⟩
    case round =>
      clear S1 HV
      obtain ⟨k, c', hk, rfl, HS, HC⟩ := hrel
      have b8 := HS.out.box.cell 8
      have b14 := HS.out.box.cell 14
      simp only [fsA, List.getElem?_toArray, List.getElem?_cons_zero, List.getElem?_cons_succ] at b8 b14
      have lb := blk_lt HS.out.box
      by_cases hlt : k < u.args.length
      · obtain ⟨g, rfl⟩ := own_some HS.out.row (by omega)
        obtain ⟨t0, t1, t2⟩ := tksCells_cell HS.out.row hlt
        have lg := (HS.out.row.lt g rfl).2
        have hst := foldT_step (fun c t => varR vs t c) u.args k hlt c'
        rw [HC.out] at hst
        generalize tokAt u.args k = t at *
        have HST := hide1 hst
        have hlk : (k : Int) < (u.args.length : Int) := by omega
        clear HC hst
        go_wp2_with fail
        go_region_with (go_at_call 93; refine (rvariable_any pb wb B pl ca u.inn U _ sv fns fs c' t _ (HS.out.still (by repeat (first | exact Only.refl _ _ | refine Only.drew ?_ | refine Only.drewN ?_ _ | refine Only.alloc ?_ _))).k hin hn (by rw [HVS.out]; exact hv)).mono ?_; rw [HVS.out]; rintro e w2 ⟨rfl, hk2, hf2⟩)
        all_goals
          have S2 := hide1 (SeF.call (HS.out.still (w2 := wr.drew) ((Only.refl _ wr).drew)) hk2 hf2 hsw hsf)
          clear hk2 hf2
          go_wp2_with fail
          exact ⟨⟨k + 1, _, by omega, by go_num, S2, HST.out.symm⟩, by simp [intOf]; omega⟩
      · have e : k = u.args.length := by omega
        have hv2 : V = c' := by have := HC.out; rw [e, List.drop_length] at this; exact this.symm
        subst hv2
        have hlk : decide ((k : Int) < (u.args.length : Int)) = false := by simp; omega
        clear HC
        go_wp2
        go_end0
        exact ⟨rfl, HS.out.k, HS.out.fr⟩
  have k6 : ((u.kind : Int) == 6) = false := by simp; omega
  rw [if_neg h6] at hV
  by_cases h8 : u.kind = 8
  · rw [if_pos h8] at hV
    have HV : Hid ((u.args.drop 0).foldl (fun c t => varR vs t c) (funR fns u.q u.args.length c) = V) := hV
    have k8 : ((u.kind : Int) == 8) = true := by simp [h8]
    clear hV h2 h6 h8
    go_enter Tryz.func94, Tryz.ntmps94
    go_wp2_with (go_at_call 129; refine (rfunction_any pb wb B pl ca U _ sv fns fs c u.q u.args.length _ S0.out.k hn (.inr ⟨_, rfl, ha⟩)).mono ?_; rintro e w1 ⟨rfl, hk1, hf1⟩)
    have S1 := hide1 (S0.out.call hk1 hf1 hsw hsf)
    clear hk1 hf1 S0
    go_loopw [6] (fun i wr => ∃ (k : Nat) (c' : CS), k ≤ u.args.length ∧ i = .int .i64 k ∧ Hid (SeF pb wb B pl ca U (.slice fa fl fc) sv fns fs w.heap.size (fsA u (.slice aa u.args.length ac) (.slice ba bl bc) (.slice oa ol oc)) (.slice aa u.args.length ac) u.args c' w wr) ∧ Hid ((u.args.drop k).foldl (fun c t => varR vs t c) c' = V)) (fun i _ => u.args.length - (intOf i).toNat)
    case atStart => exact ⟨0, _, by omega, rfl, S1, HV⟩
    case round =>
      clear S1 HV
      obtain ⟨k, c', hk, rfl, HS, HC⟩ := hrel
      have b8 := HS.out.box.cell 8
      have b14 := HS.out.box.cell 14
      simp only [fsA, List.getElem?_toArray, List.getElem?_cons_zero, List.getElem?_cons_succ] at b8 b14
      have lb := blk_lt HS.out.box
      by_cases hlt : k < u.args.length
      · obtain ⟨g, rfl⟩ := own_some HS.out.row (by omega)
        obtain ⟨t0, t1, t2⟩ := tksCells_cell HS.out.row hlt
        have lg := (HS.out.row.lt g rfl).2
        have hst := foldT_step (fun c t => varR vs t c) u.args k hlt c'
        rw [HC.out] at hst
        generalize tokAt u.args k = t at *
        have HST := hide1 hst
        have hlk : (k : Int) < (u.args.length : Int) := by omega
        clear HC hst
        go_wp2_with fail
        go_region_with (go_at_call 93; refine (rvariable_any pb wb B pl ca u.inn U _ sv fns fs c' t _ (HS.out.still (by repeat (first | exact Only.refl _ _ | refine Only.drew ?_ | refine Only.drewN ?_ _ | refine Only.alloc ?_ _))).k hin hn (by rw [HVS.out]; exact hv)).mono ?_; rw [HVS.out]; rintro e w2 ⟨rfl, hk2, hf2⟩)
        all_goals
          have S2 := hide1 (SeF.call (HS.out.still (w2 := wr.drew) ((Only.refl _ wr).drew)) hk2 hf2 hsw hsf)
          clear hk2 hf2
          go_wp2_with fail
          exact ⟨⟨k + 1, _, by omega, by go_num, S2, HST.out.symm⟩, by simp [intOf]; omega⟩
      · have e : k = u.args.length := by omega
        have hv2 : V = c' := by have := HC.out; rw [e, List.drop_length] at this; exact this.symm
        subst hv2
        have hlk : decide ((k : Int) < (u.args.length : Int)) = false := by simp; omega
        clear HC
        go_wp2
        go_end0
        exact ⟨rfl, HS.out.k, HS.out.fr⟩
  have k8 : ((u.kind : Int) == 8) = false := by simp; omega
  rw [if_neg h8] at hV
  have HV : Hid ((u.args.drop 0).foldl (fun c t => varR vs t c) (varR vs u.q c) = V) := hV
  clear hV h2 h6 h8
  go_enter Tryz.func94, Tryz.ntmps94
  go_wp2_with (go_at_call 93; refine (rvariable_any pb wb B pl ca u.inn U _ sv fns fs c u.q _ S0.out.k hin hn (by rw [HVS.out]; exact hv)).mono ?_; rw [HVS.out]; rintro e w1 ⟨rfl, hk1, hf1⟩)
  have S1 := hide1 (S0.out.call hk1 hf1 hsw hsf)
  clear hk1 hf1 S0
  go_loopw [6] (fun i wr => ∃ (k : Nat) (c' : CS), k ≤ u.args.length ∧ i = .int .i64 k ∧ Hid (SeF pb wb B pl ca U (.slice fa fl fc) sv fns fs w.heap.size (fsA u (.slice aa u.args.length ac) (.slice ba bl bc) (.slice oa ol oc)) (.slice aa u.args.length ac) u.args c' w wr) ∧ Hid ((u.args.drop k).foldl (fun c t => varR vs t c) c' = V)) (fun i _ => u.args.length - (intOf i).toNat)
  case atStart => exact ⟨0, _, by omega, rfl, S1, HV⟩
  case round =>
    clear S1 HV
    obtain ⟨k, c', hk, rfl, HS, HC⟩ := hrel
    have b8 := HS.out.box.cell 8
    have b14 := HS.out.box.cell 14
    simp only [fsA, List.getElem?_toArray, List.getElem?_cons_zero, List.getElem?_cons_succ] at b8 b14
    have lb := blk_lt HS.out.box
    by_cases hlt : k < u.args.length
    · obtain ⟨g, rfl⟩ := own_some HS.out.row (by omega)
      obtain ⟨t0, t1, t2⟩ := tksCells_cell HS.out.row hlt
      have lg := (HS.out.row.lt g rfl).2
      have hst := foldT_step (fun c t => varR vs t c) u.args k hlt c'
      rw [HC.out] at hst
      generalize tokAt u.args k = t at *
      have HST := hide1 hst
      have hlk : (k : Int) < (u.args.length : Int) := by omega
      clear HC hst
      go_wp2_with fail
      go_region_with (go_at_call 93; refine (rvariable_any pb wb B pl ca u.inn U _ sv fns fs c' t _ (HS.out.still (by repeat (first | exact Only.refl _ _ | refine Only.drew ?_ | refine Only.drewN ?_ _ | refine Only.alloc ?_ _))).k hin hn (by rw [HVS.out]; exact hv)).mono ?_; rw [HVS.out]; rintro e w2 ⟨rfl, hk2, hf2⟩)
      all_goals
        have S2 := hide1 (SeF.call (HS.out.still (w2 := wr.drew) ((Only.refl _ wr).drew)) hk2 hf2 hsw hsf)
        clear hk2 hf2
        go_wp2_with fail
        exact ⟨⟨k + 1, _, by omega, by go_num, S2, HST.out.symm⟩, by simp [intOf]; omega⟩
    · have e : k = u.args.length := by omega
      have hv2 : V = c' := by have := HC.out; rw [e, List.drop_length] at this; exact this.symm
      subst hv2
      have hlk : decide ((k : Int) < (u.args.length : Int)) = false := by simp; omega
      clear HC
      go_wp2
      go_end0
      exact ⟨rfl, HS.out.k, HS.out.fr⟩

end Go.Proofs.YtgbmakpdjdigmaaGreatDoor

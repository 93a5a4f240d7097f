/- CkA CkB CkC: told at each. -/
import Derived.Test.YtgbmakpdjdigmaaGreatDoorG04
import Derived.Maps.OwnSet
import Derived.StringKeys

/- The program's checker: where it lies; report, variable, functionName: what each leaves. -/
namespace Go.Proofs.YtgbmakpdjdigmaaGreatDoor
open Go.RowKit Go.Maps

theorem mapLaw : Keyed Tryz.prog 9 := string_keyed Tryz.underlying9
theorem zeroInt (w : World) : (zeroValue 3).run Tryz.prog w = .ok (.int .i64 0) w := by kernel_rfl
/-- The first fault and its place. -/
structure CS where
  fault : Nat
  place : Nat
def repC (f p : Nat) (c : CS) : CS := if c.fault = 0 then ⟨f, p⟩ else c
/-- The checker's block: its program's rows and end, its two maps, its fault. -/
def CkBlk (b : Nat) (fs : Value) (stop : Int) (mf mv : Value) (c : CS) (w : World) : Prop := Box b #[fs, .int .i64 stop, mf, mv, .int .i64 c.fault, .int .i64 c.place] 240 w
def keyS (s : ByteArray) : Lit := .string s.data.toList
def MapAt (b n : Nat) (D : DataW Unit) (w : World) : Prop := w.ownsMap Tryz.prog 9 (plainElem Tryz.prog 3) b n D

set_option maxRecDepth 100000 in
set_option maxHeartbeats 400000 in
theorem report_any (b f p : Nat) (fs : Value) (stop : Int) (mf mv : Value) (c : CS) (w : World) (hr : CkBlk b fs stop mf mv c w) :
    Calls Tryz.prog 122 #[.pointer (some ⟨b, 0, none⟩), .int .i64 f, .int .i64 p] w fun e w' => e = .returned (.tuple #[]) ∧ CkBlk b fs stop mf mv (repC f p c) w' ∧ Only (fun k => k = b) w w' := by
  have r4 := blk_cell hr 4
  have r5 := blk_cell hr 5
  have ff := fun i => blk_frozen hr i
  simp only [List.getElem?_toArray, List.getElem?_cons_zero, List.getElem?_cons_succ] at r4 r5
  have lr := blk_lt hr
  have HR := hide1 hr
  clear hr
  by_cases h0 : c.fault = 0
  · have e0 : repC f p c = ⟨f, p⟩ := by simp [repC, h0]
    rw [e0]
    have h0' : ((c.fault : Int) == 0) = true := by simp [h0]
    clear e0 h0
    go_enter Tryz.func122, Tryz.ntmps122
    go_wp2
    go_end0
    refine ⟨rfl, ?_, ?_⟩
    · have := (Box.set (w := w) HR.out 4 (.int .i64 f)).set 5 (.int .i64 p)
      simpa [CkBlk] using this
    · exact ((Only.refl _ _).set_at 4 _).set_at 5 _
  · have e0 : repC f p c = c := by simp [repC, h0]
    rw [e0]
    have h0' : ((c.fault : Int) == 0) = false := by simp [h0]
    clear e0 h0
    go_enter Tryz.func122, Tryz.ntmps122
    go_wp2
    go_end0
    exact ⟨rfl, HR.out, Only.refl _ _⟩

theorem keyS_of {s : ByteArray} (hl : s.size ≤ 4000) : keyOf Tryz.prog 9 (.string s) = some (keyS s) := WideMaps.keyOf_string_mk Tryz.underlying9 (by unfold maxLen; omega)
/-- 'v, ok := m[k]'. -/
theorem look_any {m n : Nat} {D : DataW Unit} {w : World} {s : ByteArray} (h : MapAt m n D w) (hl : s.size ≤ 4000) :
    ∃ z : Int, (Instr.lookup 192 (.map (some m)) (.string s) true).run Tryz.prog w = .ok (.tuple #[.int .i64 z, .bool (Maps.has D (keyS s))]) w ∧ D.atKey (keyS s) (.lit (.int .i64 0)) = .lit (.int .i64 z) ∧ (Lit.int .i64 z).wf = true := by
  obtain ⟨v, ps, hrun, hv⟩ := World.ownsMap.look_ok h mapLaw Tryz.underlying192 (zeroInt w) (plainElem_int Tryz.underlying3 (a := 0) (by decide)) (keyS_of hl)
  obtain ⟨c, rfl, hc, hwc⟩ := plainElem_int_inv Tryz.underlying3 hv
  exact ⟨c, hrun, congrArg Prod.fst hc, hwc⟩
theorem MapAt.only {m n : Nat} {D : DataW Unit} {X : Nat → Prop} {w w' : World} (h : MapAt m n D w) (ho : Only X w w') (hx : ¬ X m) : MapAt m n D w' := by
  obtain ⟨es, clock, hb, r⟩ := h
  exact ⟨es, clock, by rw [ho.block m (lt_of_block hb) hx]; exact hb, r⟩
theorem MapAt.ne {m n b : Nat} {D : DataW Unit} {w : World} (h : MapAt m n D w) {cs : Array Value} {t : TypeId} {fz : Nat × Nat} (hr : w.heap[b]? = some (.cells cs t fz)) : m ≠ b := by
  obtain ⟨es, clock, hb, r⟩ := h
  rintro rfl
  rw [hb] at hr
  cases hr
/-- A name that is not there is a fault. -/
def nameC (D : DataW Unit) (t : PT) (c : CS) : CS := if Maps.has D (keyS t.text) then c else repC 6 t.place c

set_option maxRecDepth 100000 in
set_option maxHeartbeats 1000000 in
theorem variable_any (b : Nat) (fs : Value) (stop : Int) (mf : Value) (m n : Nat) (D : DataW Unit) (c : CS) (t : PT) (w : World) (hr : CkBlk b fs stop mf (.map (some m)) c w) (hm : MapAt m n D w) (hl : t.text.size ≤ 4000) :
    Calls Tryz.prog 233 #[.pointer (some ⟨b, 0, none⟩), nmV t] w fun e w' => e = .returned (.tuple #[]) ∧ CkBlk b fs stop mf (.map (some m)) (nameC D t c) w' ∧ Only (fun k => k = b) w w' := by
  have r3 := blk_cell hr 3
  simp only [List.getElem?_toArray, List.getElem?_cons_zero, List.getElem?_cons_succ] at r3
  have lr := blk_lt hr
  obtain ⟨z, hrun, _, _⟩ := look_any (w := (w.alloc (.cells #[.string t.text, .int .i64 t.place] 197)).drew) (hm.only (((Only.refl (fun _ => False) w).alloc _).drew) (fun q => q)) hl
  have HR := hide1 hr
  clear hr hm
  unfold nmV
  cases hh : Maps.has D (keyS t.text) with
  | true =>
    rw [hh] at hrun
    have e0 : nameC D t c = c := by simp [nameC, hh]
    rw [e0]
    clear e0 hh
    go_enter Tryz.func233, Tryz.ntmps233
    go_wp2
    go_region
    go_wp2
    go_end0
    exact ⟨rfl, HR.out.only (((Only.refl (fun _ => False) w).alloc _).drew) (fun q => q), ((Only.refl _ w).alloc _).drew⟩
  | false =>
    rw [hh] at hrun
    have e0 : nameC D t c = repC 6 t.place c := by simp [nameC, hh]
    rw [e0]
    clear e0 hh
    go_enter Tryz.func233, Tryz.ntmps233
    go_wp2
    go_region
    go_wp2_with (go_at_call 122; refine (report_any b 6 t.place fs stop mf (.map (some m)) c _ (HR.out.only (((Only.refl (fun _ => False) w).alloc _).drew) (fun q => q))).mono ?_)
    rintro e w2 ⟨rfl, hr2, ho2⟩
    go_wp2
    go_end0
    exact ⟨rfl, hr2, (((Only.refl _ w).alloc _).drew).trans ho2⟩

end Go.Proofs.YtgbmakpdjdigmaaGreatDoor

/- The program's checker: functionName, declare. -/
namespace Go.Proofs.YtgbmakpdjdigmaaGreatDoor
open Go.RowKit Go.Maps

set_option maxRecDepth 100000 in
set_option maxHeartbeats 1000000 in
theorem functionName_any (b : Nat) (fs : Value) (stop : Int) (mv : Value) (m n : Nat) (D : DataW Unit) (c : CS) (t : PT) (w : World) (hr : CkBlk b fs stop (.map (some m)) mv c w) (hm : MapAt m n D w) (hl : t.text.size ≤ 4000) :
    Calls Tryz.prog 234 #[.pointer (some ⟨b, 0, none⟩), nmV t] w fun e w' => e = .returned (.tuple #[]) ∧ CkBlk b fs stop (.map (some m)) mv (nameC D t c) w' ∧ Only (fun k => k = b) w w' := by
  have r2 := blk_cell hr 2
  simp only [List.getElem?_toArray, List.getElem?_cons_zero, List.getElem?_cons_succ] at r2
  have lr := blk_lt hr
  obtain ⟨z, hrun, _, _⟩ := look_any (w := (w.alloc (.cells #[.string t.text, .int .i64 t.place] 197)).drew) (hm.only (((Only.refl (fun _ => False) w).alloc _).drew) (fun q => q)) hl
  have HR := hide1 hr
  clear hr hm
  unfold nmV
  cases hh : Maps.has D (keyS t.text) with
  | true =>
    rw [hh] at hrun
    have e0 : nameC D t c = c := by simp [nameC, hh]
    rw [e0]
    clear e0 hh
    go_enter Tryz.func234, Tryz.ntmps234
    go_wp2
    go_region
    go_wp2
    go_end0
    exact ⟨rfl, HR.out.only (((Only.refl (fun _ => False) w).alloc _).drew) (fun q => q), ((Only.refl _ w).alloc _).drew⟩
  | false =>
    rw [hh] at hrun
    have e0 : nameC D t c = repC 6 t.place c := by simp [nameC, hh]
    rw [e0]
    clear e0 hh
    go_enter Tryz.func234, Tryz.ntmps234
    go_wp2
    go_region
    go_wp2_with (go_at_call 122; refine (report_any b 6 t.place fs stop (.map (some m)) mv c _ (HR.out.only (((Only.refl (fun _ => False) w).alloc _).drew) (fun q => q))).mono ?_)
    rintro e w2 ⟨rfl, hr2, ho2⟩
    go_wp2
    go_end0
    exact ⟨rfl, hr2, (((Only.refl _ w).alloc _).drew).trans ho2⟩

/-- 'm[k] = p'. -/
theorem store_any {m n p : Nat} {D : DataW Unit} {w : World} {s : ByteArray} (h : MapAt m n D w) (hl : s.size ≤ 4000) (hp : p ≤ 4000) (hn : n ≤ 4000) :
    ∃ w', (Instr.mapUpdate 192 (.map (some m)) (.string s) (.int .i64 p)).run Tryz.prog w = .ok () w' ∧ MapAt m (n + 1) (D.put (keyS s) (.lit (.int .i64 p))) w' ∧ Only (fun k => k = m) w w' := by
  have hw : (Lit.int .i64 (p : Int)).wf = true := WalkArith.wf_i64 (by omega)
  obtain ⟨w', hst, hM, hT⟩ := World.ownsMap.store h mapLaw Tryz.underlying192 (by unfold maxLen; omega) (keyS_of hl) (plainElem_int Tryz.underlying3 hw)
  exact ⟨w', hst, hM, (Only.refl _ w).grown hT.grown (fun k hk => .inl (by cases hk; rfl))⟩
/-- What a new variable does to the fault. -/
def declC (D : DataW Unit) (t : PT) (c : CS) : CS :=
  let c1 := if 12 ≤ Maps.size D then repC 4 t.place c else c
  if Maps.has D (keyS t.text) then repC 5 t.place c1 else c1
def declD (D : DataW Unit) (t : PT) : DataW Unit := D.put (keyS t.text) (.lit (.int .i64 t.place))

set_option maxRecDepth 100000 in
set_option maxHeartbeats 1000000 in
theorem declare_any (b : Nat) (fs : Value) (stop : Int) (mf : Value) (m n : Nat) (D : DataW Unit) (c : CS) (t : PT) (w : World) (hr : CkBlk b fs stop mf (.map (some m)) c w) (hm : MapAt m n D w) (hl : t.text.size ≤ 4000) (hp : t.place ≤ 4000) (hn : n ≤ 4000) :
    Calls Tryz.prog 175 #[.pointer (some ⟨b, 0, none⟩), nmV t] w fun e w' => e = .returned (.tuple #[]) ∧ CkBlk b fs stop mf (.map (some m)) (declC D t c) w' ∧ MapAt m (n + 1) (declD D t) w' ∧ Only (fun k => k = b ∨ k = m) w w' := by
  have r3 := blk_cell hr 3
  simp only [List.getElem?_toArray, List.getElem?_cons_zero, List.getElem?_cons_succ] at r3
  have lr := blk_lt hr
  have HR := hide1 hr
  have HM := hide1 hm
  clear hr hm
  unfold nmV
  have K0 := hide1 (HR.out.only ((Only.refl (fun _ => False) w).alloc (.cells #[.string t.text, .int .i64 t.place] 197)) (fun q => q))
  have M0 := hide1 (HM.out.only ((Only.refl (fun _ => False) w).alloc (.cells #[.string t.text, .int .i64 t.place] 197)) (fun q => q))
  have N0 := hide1 (Box.new w #[.string t.text, .int .i64 t.place] 197)
  have O0 := hide1 ((Only.refl (fun k => k = b) w).alloc (.cells #[.string t.text, .int .i64 t.place] 197))
  have hlen := fun ty => World.ownsMap.len M0.out Tryz.underlying192 ty
  by_cases hs : 12 ≤ Maps.size D
  · have hs' : (12 : Int) ≤ (Maps.size D : Int) := by omega
    obtain ⟨c1, hc1⟩ : ∃ c1, repC 4 t.place c = c1 := ⟨_, rfl⟩
    have hdc : declC D t c = if Maps.has D (keyS t.text) then repC 5 t.place c1 else c1 := by simp [declC, hs, hc1]
    rw [hdc]
    have C1 := hide1 hc1
    clear hdc hc1 hs
    go_enter Tryz.func175, Tryz.ntmps175
    go_wp2_with (go_at_call 122; refine (report_any b 4 t.place fs stop mf (.map (some m)) c _ K0.out).mono ?_)
    rw [C1.out]
    rintro e W ⟨rfl, kw, ow⟩
    have K1 := hide1 kw
    have M1 := hide1 (MapAt.only M0.out ow (MapAt.ne M0.out K0.out))
    have N1 := hide1 (Box.only N0.out ow (by omega))
    have O1 := hide1 (O0.out.trans ow)
    clear kw ow hlen r3
    go_wp2
    have k3 := blk_cell K1.out 3
    have j0 := blk_cell N1.out 0
    have j1 := blk_cell N1.out 1
    simp only [List.getElem?_toArray, List.getElem?_cons_zero, List.getElem?_cons_succ] at k3 j0 j1
    obtain ⟨z, hrun, _, _⟩ := look_any (w := W.drew) (MapAt.only M1.out ((Only.refl (fun _ => False) W).drew) (fun q => q)) hl
    cases hh : Maps.has D (keyS t.text) with
    | true =>
      rw [hh] at hrun
      have HH := hide1 hh
      clear hh
      go_region
      go_wp2_with (go_at_call 122; refine (report_any b 5 t.place fs stop mf (.map (some m)) c1 _ (Box.only K1.out ((Only.refl (fun _ => False) W).drew) (fun q => q))).mono ?_)
      rintro e V ⟨rfl, kv, ov⟩
      have ov' : Only (fun k => k = b) W V := ((Only.refl _ W).drew).trans ov
      have K2 := hide1 kv
      have M2 := hide1 (MapAt.only M1.out ov' (MapAt.ne M1.out K1.out))
      have N2 := hide1 (Box.only N1.out ov' (by omega))
      have O2 := hide1 (O1.out.trans ov')
      clear kv ov ov' hrun k3 j0 j1
      obtain ⟨V', hst, hM', hT⟩ := store_any (w := V.drew) (MapAt.only M2.out ((Only.refl (fun _ => False) V).drew) (fun q => q)) hl hp hn
      have q3 := blk_cell K2.out 3
      have n0 := blk_cell N2.out 0
      have n1 := blk_cell N2.out 1
      simp only [List.getElem?_toArray, List.getElem?_cons_zero, List.getElem?_cons_succ] at q3 n0 n1
      go_wp2
      go_region
      go_end0
      have hT' : Only (fun k => k = m) V V' := ((Only.refl _ V).drew).trans hT
      have hmb := M2.out.ne K2.out
      rw [if_pos HH.out]
      exact ⟨rfl, Box.only K2.out hT' (fun q => hmb q.symm), hM', (O2.out.mono (fun _ _ q => .inl q)).trans (hT'.mono (fun _ _ q => .inr q))⟩
    | false =>
      rw [hh] at hrun
      have HH := hide1 hh
      clear hh
      go_region
      have K2 := hide1 (Box.only K1.out ((Only.refl (fun _ => False) W).drew) (fun q => q))
      have M2 := hide1 (MapAt.only M1.out ((Only.refl (fun _ => False) W).drew) (fun q => q))
      have N2 := hide1 (Box.only N1.out ((Only.refl (fun _ => False) W).drew) (fun q => q))
      have O2 := hide1 (O1.out.drew)
      generalize hV : W.drew = V at *
      clear hrun k3 j0 j1 hV
      obtain ⟨V', hst, hM', hT⟩ := store_any (w := V.drew) (MapAt.only M2.out ((Only.refl (fun _ => False) V).drew) (fun q => q)) hl hp hn
      have q3 := blk_cell K2.out 3
      have n0 := blk_cell N2.out 0
      have n1 := blk_cell N2.out 1
      simp only [List.getElem?_toArray, List.getElem?_cons_zero, List.getElem?_cons_succ] at q3 n0 n1
      go_wp2
      go_region
      go_end0
      have hT' : Only (fun k => k = m) V V' := ((Only.refl _ V).drew).trans hT
      have hmb := M2.out.ne K2.out
      rw [if_neg (by rw [HH.out]; decide)]
      exact ⟨rfl, Box.only K2.out hT' (fun q => hmb q.symm), hM', (O2.out.mono (fun _ _ q => .inl q)).trans (hT'.mono (fun _ _ q => .inr q))⟩
  · have hs' : ¬ (12 : Int) ≤ (Maps.size D : Int) := by omega
    obtain ⟨c1, hc1⟩ : ∃ c1, c = c1 := ⟨_, rfl⟩
    have hdc : declC D t c = if Maps.has D (keyS t.text) then repC 5 t.place c1 else c1 := by simp [declC, hs, hc1]
    rw [hdc]
    clear hdc hs
    subst hc1
    go_enter Tryz.func175, Tryz.ntmps175
    go_wp2
    generalize w.alloc (.cells #[.string t.text, .int .i64 t.place] 197) = W at *
    have K1 := K0
    have M1 := M0
    have N1 := N0
    have O1 := O0
    clear hlen r3 K0 M0 N0 O0
    have k3 := blk_cell K1.out 3
    have j0 := blk_cell N1.out 0
    have j1 := blk_cell N1.out 1
    simp only [List.getElem?_toArray, List.getElem?_cons_zero, List.getElem?_cons_succ] at k3 j0 j1
    obtain ⟨z, hrun, _, _⟩ := look_any (w := W.drew) (MapAt.only M1.out ((Only.refl (fun _ => False) W).drew) (fun q => q)) hl
    cases hh : Maps.has D (keyS t.text) with
    | true =>
      rw [hh] at hrun
      have HH := hide1 hh
      clear hh
      go_region
      go_wp2_with (go_at_call 122; refine (report_any b 5 t.place fs stop mf (.map (some m)) c _ (Box.only K1.out ((Only.refl (fun _ => False) W).drew) (fun q => q))).mono ?_)
      rintro e V ⟨rfl, kv, ov⟩
      have ov' : Only (fun k => k = b) W V := ((Only.refl _ W).drew).trans ov
      have K2 := hide1 kv
      have M2 := hide1 (MapAt.only M1.out ov' (MapAt.ne M1.out K1.out))
      have N2 := hide1 (Box.only N1.out ov' (by omega))
      have O2 := hide1 (O1.out.trans ov')
      clear kv ov ov' hrun k3 j0 j1
      obtain ⟨V', hst, hM', hT⟩ := store_any (w := V.drew) (MapAt.only M2.out ((Only.refl (fun _ => False) V).drew) (fun q => q)) hl hp hn
      have q3 := blk_cell K2.out 3
      have n0 := blk_cell N2.out 0
      have n1 := blk_cell N2.out 1
      simp only [List.getElem?_toArray, List.getElem?_cons_zero, List.getElem?_cons_succ] at q3 n0 n1
      go_wp2
      go_region
      go_end0
      have hT' : Only (fun k => k = m) V V' := ((Only.refl _ V).drew).trans hT
      have hmb := M2.out.ne K2.out
      rw [if_pos HH.out]
      exact ⟨rfl, Box.only K2.out hT' (fun q => hmb q.symm), hM', (O2.out.mono (fun _ _ q => .inl q)).trans (hT'.mono (fun _ _ q => .inr q))⟩
    | false =>
      rw [hh] at hrun
      have HH := hide1 hh
      clear hh
      go_region
      have K2 := hide1 (Box.only K1.out ((Only.refl (fun _ => False) W).drew) (fun q => q))
      have M2 := hide1 (MapAt.only M1.out ((Only.refl (fun _ => False) W).drew) (fun q => q))
      have N2 := hide1 (Box.only N1.out ((Only.refl (fun _ => False) W).drew) (fun q => q))
      have O2 := hide1 (O1.out.drew)
      generalize hV : W.drew = V at *
      clear hrun k3 j0 j1 hV
      obtain ⟨V', hst, hM', hT⟩ := store_any (w := V.drew) (MapAt.only M2.out ((Only.refl (fun _ => False) V).drew) (fun q => q)) hl hp hn
      have q3 := blk_cell K2.out 3
      have n0 := blk_cell N2.out 0
      have n1 := blk_cell N2.out 1
      simp only [List.getElem?_toArray, List.getElem?_cons_zero, List.getElem?_cons_succ] at q3 n0 n1
      go_wp2
      go_region
      go_end0
      have hT' : Only (fun k => k = m) V V' := ((Only.refl _ V).drew).trans hT
      have hmb := M2.out.ne K2.out
      rw [if_neg (by rw [HH.out]; decide)]
      exact ⟨rfl, Box.only K2.out hT' (fun q => hmb q.symm), hM', (O2.out.mono (fun _ _ q => .inl q)).trans (hT'.mono (fun _ _ q => .inr q))⟩

end Go.Proofs.YtgbmakpdjdigmaaGreatDoor

/- The program's checker: allVariables. -/
namespace Go.Proofs.YtgbmakpdjdigmaaGreatDoor
open Go.RowKit Go.Maps

def namesC (D : DataW Unit) (l : List PT) (c : CS) : CS := l.foldl (fun c t => nameC D t c) c
theorem namesC_step (D : DataW Unit) (l : List PT) (k : Nat) (h : k < l.length) (c : CS) : namesC D (l.drop k) c = namesC D (l.drop (k + 1)) (nameC D l[k] c) := by
  rw [List.drop_eq_getElem_cons h]; rfl
theorem nmsCells_at {l : List PT} {i : Nat} (h : i < l.length) : (nmsCells l)[i * 2]? = some (.string l[i].text) ∧ (nmsCells l)[i * 2 + 1]? = some (.int .i64 l[i].place) := by
  induction l generalizing i with
  | nil => simp at h
  | cons t l ih =>
    cases i with
    | zero => simp [nmsCells, nmCells]
    | succ i =>
      have := ih (i := i) (by simpa using h)
      simp only [nmsCells, List.flatMap_cons, List.getElem_cons_succ] at this ⊢
      have e : ∀ j, (nmCells t ++ List.flatMap nmCells l)[(i + 1) * 2 + j]? = (List.flatMap nmCells l)[i * 2 + j]? := by
        intro j
        rw [List.getElem?_append_right (by simp [nmCells]; omega)]
        congr 1
        simp [nmCells]; omega
      exact ⟨by rw [show (i + 1) * 2 = (i + 1) * 2 + 0 from rfl, e]; exact this.1, by rw [e]; exact this.2⟩

set_option maxRecDepth 100000 in
set_option maxHeartbeats 1000000 in
theorem allVariables_any (b : Nat) (fs : Value) (stop : Int) (mf : Value) (m n : Nat) (D : DataW Unit) (c : CS) (l : List PT) (av : Value) (w : World) (hr : CkBlk b fs stop mf (.map (some m)) c w) (hm : MapAt m n D w) (hown : w.ownsRow 0 197 2 av l.length (nmsCells l)) (hl : ∀ t, t ∈ l → t.text.size ≤ 4000) (hk : l.length ≤ 4000) :
    Calls Tryz.prog 236 #[.pointer (some ⟨b, 0, none⟩), av] w fun e w' => e = .returned (.tuple #[]) ∧ CkBlk b fs stop mf (.map (some m)) (namesC D l c) w' ∧ Only (fun k => k = b) w w' := by
  obtain ⟨va, vl, vc, rfl⟩ := owns_form hown
  have hvl := own_len hown
  subst hvl
  have lr := blk_lt hr
  have hnb := own_ne hown hr (by decide)
  have hmb := hm.ne hr
  generalize hV : namesC D l c = V
  have HV : Hid (namesC D (l.drop 0) c = V) := hV
  have HR := hide1 hr
  have HM := hide1 hm
  have HW := hide1 hown
  clear hV hr hm hown
  go_enter Tryz.func236, Tryz.ntmps236
  go_wp2
  go_loopw [8] (fun i wr => ∃ (k : Nat) (c' : CS), k ≤ l.length ∧ i = .int .i64 k ∧ Hid (CkBlk b fs stop mf (.map (some m)) c' wr) ∧ Hid (Only (fun k => k = b) w wr) ∧ Hid (namesC D (l.drop k) c' = V)) (fun i _ => l.length - (intOf i).toNat)
  case atStart => exact ⟨0, c, by omega, rfl, HR, hide1 (Only.refl _ _), HV⟩
  case round =>
    obtain ⟨k, c', hkl, rfl, hr1, ho1, hv1⟩ := hrel
    clear HV HR
    by_cases hlt : k < l.length
    · obtain ⟨g, rfl⟩ := own_some HW.out (by omega)
      have hw1 := ownsRow_only HW.out ho1.out hnb
      have hM1 := hide1 (MapAt.only HM.out ho1.out hmb)
      have ha := nmsCells_at hlt
      have c0 := hw1.cellAt (k * 2) (by omega)
      have c1 := hw1.cellAt (k * 2 + 1) (by omega)
      rw [ha.1] at c0
      rw [ha.2] at c1
      have lg := (hw1.lt g rfl).2
      have hst := hide1 (namesC_step D l k hlt c')
      have hlk := hl l[k] (List.getElem_mem _)
      generalize l[k] = t at *
      have l1 := ho1.out.size
      clear ha hw1
      go_wp2_with (go_at_call 233; refine (variable_any b fs stop mf m n D c' t _ (Box.only hr1.out ((Only.refl (fun _ => False) _).alloc _) (fun q => q)) (MapAt.only hM1.out ((Only.refl (fun _ => False) _).alloc _) (fun q => q)) hlk).mono ?_; rintro e w2 ⟨rfl, hr2, ho2⟩)
      go_round
      case rel => exact ⟨k + 1, _, by omega, by go_num, hide1 hr2, hide1 (ho1.out.trans (((Only.refl _ _).alloc _).trans ho2)), hide1 (hst.out.symm.trans hv1.out)⟩
      case measure => simp [intOf]; omega
    · have e : k = l.length := by omega
      subst e
      have hv2 : c' = V := by have := hv1.out; simpa [namesC] using this
      subst hv2
      go_wp2
      go_end0
      exact ⟨rfl, hr1.out, ho1.out⟩

end Go.Proofs.YtgbmakpdjdigmaaGreatDoor

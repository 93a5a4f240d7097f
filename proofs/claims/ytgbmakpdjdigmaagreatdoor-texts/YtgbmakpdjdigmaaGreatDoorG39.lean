/- ChA ChB: told at each. -/
import Derived.Test.YtgbmakpdjdigmaaGreatDoorG31
import Derived.Test.YtgbmakpdjdigmaaGreatDoorG13

/- The reference's checks: its functions in memory (FnRow); find, Func, add: what each answers. -/
namespace Go.Proofs.YtgbmakpdjdigmaaGreatDoor
open Go.RowKit

/-- A function of the reference. -/
structure RF where
  name : Tk
  takes : List Tk
  body : List Nat
  br : Nat
  vars : List ByteArray
def rfA (f : RF) (tv bv vv : Value) : Array Value := #[.string f.name.text, .int .i64 f.name.pos, .int .i64 f.name.sort, tv, bv, .int .i64 f.br, vv]
def StrsAt (B : Nat) (w : World) (v : Value) (l : List ByteArray) : Prop := w.ownsRow B 9 1 v l.length (l.map Value.string)
def RFRep (B : Nat) (w : World) (c : List Value) (f : RF) : Prop := ∃ tv bv vv, c = (rfA f tv bv vv).toList ∧ TksAt B w tv f.takes ∧ IntsAt B w bv f.body ∧ StrsAt B w vv f.vars
def varV (c : List Value) : Value := c[6]?.getD (.bool false)
/-- The functions; no two of them have the same row of variables. -/
def FnRow (B : Nat) (w : World) (fv : Value) (fns : List RF) : Prop :=
  ∃ cs : List (List Value), w.ownsRow B 116 7 fv fns.length cs.flatten ∧ cs.length = fns.length ∧ (∀ i (h : i < cs.length) (h' : i < fns.length), RFRep B w cs[i] fns[i]) ∧ ∀ i j (hi : i < cs.length) (hj : j < cs.length), i ≠ j → ∀ k, (varV cs[i]).ownBlock = some k → (varV cs[j]).ownBlock ≠ some k
theorem RFRep.only {B : Nat} {w w' : World} {c : List Value} {f : RF} {X : Nat → Prop} (h : RFRep B w c f) (ho : Only X w w') (hx : ∀ k cs t fz, X k → w.heap[k]? = some (.cells cs t fz) → t ≠ 3 ∧ t ≠ 114 ∧ t ≠ 9) : RFRep B w' c f := by
  obtain ⟨tv, bv, vv, hc, ht, hb, hv⟩ := h
  exact ⟨tv, bv, vv, hc, ownsRow_typed ht ho (fun k cs fz hk q => (hx k cs _ fz hk q).2.1 rfl), ownsRow_typed hb ho (fun k cs fz hk q => (hx k cs _ fz hk q).1 rfl), ownsRow_typed hv ho (fun k cs fz hk q => (hx k cs _ fz hk q).2.2 rfl)⟩
theorem FnRow.only {B : Nat} {w w' : World} {fv : Value} {fns : List RF} {X : Nat → Prop} (h : FnRow B w fv fns) (ho : Only X w w') (hs : ∀ k, fv.ownBlock = some k → ¬ X k) (hx : ∀ k cs t fz, X k → w.heap[k]? = some (.cells cs t fz) → t ≠ 3 ∧ t ≠ 114 ∧ t ≠ 9) : FnRow B w' fv fns := by
  obtain ⟨cs, hrow, hl, hrep, hap⟩ := h
  exact ⟨cs, ownsRow_only hrow ho hs, hl, fun i h1 h2 => (hrep i h1 h2).only ho hx, hap⟩
theorem FnRow.still {B : Nat} {w w' : World} {fv : Value} {fns : List RF} (h : FnRow B w fv fns) (ho : Only (fun _ => False) w w') : FnRow B w' fv fns := h.only ho (fun _ _ q => q) (fun _ _ _ _ q => q.elim)
/-- A function's cells. -/
theorem FnRow.get {B : Nat} {w : World} {g l c : Nat} {fns : List RF} (h : FnRow B w (.slice (some ⟨g, 0, none⟩) l c) fns) {i : Nat} (hi : i < fns.length) :
    ∃ tv bv vv, (∀ j, j < 7 → w.cell? ⟨g, i * 7 + j, none⟩ = (rfA fns[i] tv bv vv)[j]?) ∧ TksAt B w tv fns[i].takes ∧ IntsAt B w bv fns[i].body ∧ StrsAt B w vv fns[i].vars := by
  obtain ⟨cs, hrow, hl, hrep, hap⟩ := h
  have hvl := own_len hrow
  subst hvl
  have hi' : i < cs.length := by omega
  have h7 : ∀ x, x ∈ cs → x.length = 7 := by
    intro x hx
    obtain ⟨j, hj, rfl⟩ := List.mem_iff_getElem.1 hx
    obtain ⟨_, _, _, e, _⟩ := hrep j hj (by omega)
    rw [e]; rfl
  obtain ⟨tv, bv, vv, e, h1, h2, h3⟩ := hrep i hi' hi
  refine ⟨tv, bv, vv, fun j hj => ?_, h1, h2, h3⟩
  have hc := hrow.cellAt (i * 7 + j) (by omega)
  rw [hc, flat_at h7 hi' hj, e]
  simp

def fiR : List ByteArray → ByteArray → Nat → Int
  | [], _, _ => -1
  | a :: l, s, k => if a.toList = s.toList then (k : Int) else fiR l s (k + 1)
theorem fiR_drop (l : List ByteArray) (s : ByteArray) (k : Nat) (h : k < l.length) : fiR (l.drop k) s k = if l[k].toList = s.toList then (k : Int) else fiR (l.drop (k + 1)) s (k + 1) := by
  rw [List.drop_eq_getElem_cons h]; rfl
theorem bytes_inj {a b : ByteArray} (h : a.toList = b.toList) : a = b := by
  rw [ByteArray.toList_eq, ByteArray.toList_eq] at h
  exact ByteArray.ext (Array.toList_inj.1 h)
theorem fiR_mem (l : List ByteArray) (s : ByteArray) : ∀ k, (0 ≤ fiR l s k ↔ s ∈ l) ∧ -1 ≤ fiR l s k ∧ fiR l s k < k + l.length := by
  induction l with
  | nil => intro k; simp [fiR]; omega
  | cons a l ih =>
    intro k
    rw [fiR]
    split
    · rename_i h
      have := bytes_inj h
      subst this
      exact ⟨⟨fun _ => List.mem_cons_self .., fun _ => by omega⟩, by omega, by simp; omega⟩
    · rename_i h
      obtain ⟨h1, h2, h3⟩ := ih (k + 1)
      refine ⟨⟨fun q => List.mem_cons_of_mem _ (h1.1 q), fun q => ?_⟩, h2, by simp only [List.length_cons]; omega⟩
      rcases List.mem_cons.1 q with q | q
      · subst q; exact absurd rfl h
      · exact h1.2 q

set_option maxRecDepth 100000 in
set_option maxHeartbeats 1000000 in
theorem find_any (B : Nat) (v : Value) (l : List ByteArray) (s : ByteArray) (w : World) (h : StrsAt B w v l) (hl : l.length ≤ 4001) :
    Calls Tryz.prog 92 #[v, .string s] w fun e w' => e = .returned (.int .i64 (fiR l s 0)) ∧ w' = w := by
  obtain ⟨va, vl, vc, rfl⟩ := owns_form h
  have hvl := own_len h
  subst hvl
  generalize hV : fiR l s 0 = V
  have HV : Hid (fiR (l.drop 0) s 0 = V) := hV
  have HR := hide1 h
  clear hV h
  go_enter Tryz.func92, Tryz.ntmps92
  go_wp2
  go_loopw [5] (fun i wr => ∃ k : Nat, k ≤ l.length ∧ i = .int .i64 k ∧ wr = w ∧ Hid (fiR (l.drop k) s k = V)) (fun i _ => l.length - (intOf i).toNat)
  case atStart => exact ⟨0, by omega, rfl, rfl, HV⟩
  case round =>
    obtain ⟨k, hk, rfl, rfl, hv⟩ := hrel
    clear HV
    by_cases hlt : k < l.length
    · obtain ⟨g, rfl⟩ := own_some HR.out (by omega)
      have c := HR.out.cellAt k (by omega)
      rw [List.getElem?_map, List.getElem?_eq_getElem hlt] at c
      simp only [Option.map_some] at c
      have lg := (HR.out.lt g rfl).2
      have hs := fiR_drop l s k hlt
      generalize l[k] = a at c hs
      cases he : (a.toList == s.toList) with
      | true =>
        have e' : a.toList = s.toList := by simpa using he
        rw [if_pos e', hv.out] at hs
        subst hs
        clear hv e'
        go_wp2
        go_ret
        exact ⟨rfl, rfl⟩
      | false =>
        have e' : ¬ a.toList = s.toList := by simpa using he
        rw [if_neg e', hv.out] at hs
        have HS := hide1 hs
        clear hv e' hs
        go_wp2
        go_round
        case rel => exact ⟨k + 1, by omega, by go_num, by trivial, HS.out.symm⟩
        case measure => simp [intOf]; omega
    · have e : k = l.length := by omega
      subst e
      have hv2 : V = -1 := by have := hv.out; rw [List.drop_length] at this; exact this.symm
      subst hv2
      clear hv
      go_wp2
      go_ret
      exact ⟨rfl, rfl⟩

set_option maxRecDepth 100000 in
set_option maxHeartbeats 1000000 in
theorem func_any (B pb pl ca : Nat) (fv sv : Value) (fns : List RF) (s : ByteArray) (w : World) (hp : PrBlk pb fv sv pl ca w) (h : FnRow B w fv fns) (hl : fns.length ≤ 4001) :
    Calls Tryz.prog 47 #[.pointer (some ⟨pb, 0, none⟩), .string s] w fun e w' => e = .returned (.int .i64 (fiR (fns.map fun f => f.name.text) s 0)) ∧ w' = w := by
  have hfl := h
  obtain ⟨cs, p1, _⟩ := hfl
  obtain ⟨va, vl, vc, rfl⟩ := owns_form p1
  have hvl := own_len p1
  subst hvl
  have p0 := hp.box.cell 0
  simp at p0
  have lp := blk_lt hp
  generalize hV : fiR (fns.map fun f => f.name.text) s 0 = V
  have HV : Hid (fiR ((fns.map fun f => f.name.text).drop 0) s 0 = V) := hV
  have HR := hide1 h
  clear hV h p1 hp
  go_enter Tryz.func47, Tryz.ntmps47
  go_wp2
  go_loopw [5] (fun i wr => ∃ k : Nat, k ≤ fns.length ∧ i = .int .i64 k ∧ wr = w ∧ Hid (fiR ((fns.map fun f => f.name.text).drop k) s k = V)) (fun i _ => fns.length - (intOf i).toNat)
  case atStart => exact ⟨0, by omega, rfl, rfl, HV⟩
  case round =>
    obtain ⟨k, hk, rfl, rfl, hv⟩ := hrel
    clear HV
    by_cases hlt : k < fns.length
    · have hfl := HR.out
      obtain ⟨cs, p1, _⟩ := hfl
      obtain ⟨g, rfl⟩ := own_some p1 (by omega)
      have lg := (p1.lt g rfl).2
      obtain ⟨tv, bv, vv, hc, _, _, _⟩ := HR.out.get hlt
      have c := hc 0 (by omega)
      simp only [rfA, List.getElem?_toArray, List.getElem?_cons_zero, Nat.add_zero] at c
      have hs := fiR_drop (fns.map fun f => f.name.text) s k (by simpa using hlt)
      rw [List.getElem_map] at hs
      clear hc p1
      generalize fns[k].name.text = a at c hs
      cases he : (a.toList == s.toList) with
      | true =>
        have e' : a.toList = s.toList := by simpa using he
        rw [if_pos e', hv.out] at hs
        subst hs
        clear hv e'
        go_wp2
        go_ret
        exact ⟨rfl, rfl⟩
      | false =>
        have e' : ¬ a.toList = s.toList := by simpa using he
        rw [if_neg e', hv.out] at hs
        have HS := hide1 hs
        clear hv e' hs
        go_wp2
        go_round
        case rel => exact ⟨k + 1, by omega, by go_num, by trivial, HS.out.symm⟩
        case measure => simp [intOf]; omega
    · have e : k = fns.length := by omega
      subst e
      have hv2 : V = -1 := by have := hv.out; rw [List.drop_of_length_le (by simp)] at this; exact this.symm
      subst hv2
      clear hv
      go_wp2
      go_ret
      exact ⟨rfl, rfl⟩

/-- The first by its place, and of one place the least number. -/
def addR (e p : Nat) (c : CS) : CS := if c.fault = 0 ∨ p < c.place ∨ (p = c.place ∧ e < c.fault) then ⟨e, p⟩ else c
def WrBlk (b : Nat) (c : CS) (w : World) : Prop := Box b #[.int .i64 c.place, .int .i64 c.fault] 108 w

set_option maxRecDepth 100000 in
set_option maxHeartbeats 1000000 in
theorem radd_any (b e p : Nat) (c : CS) (w : World) (h : WrBlk b c w) :
    Calls Tryz.prog 46 #[.pointer (some ⟨b, 0, none⟩), .int .i64 e, .int .i64 p] w fun r w' => r = .returned (.tuple #[]) ∧ WrBlk b (addR e p c) w' ∧ Only (fun k => k = b) w w' := by
  have r0 := blk_cell h 0
  have r1 := blk_cell h 1
  have ff := fun i => blk_frozen h i
  simp only [List.getElem?_toArray, List.getElem?_cons_zero, List.getElem?_cons_succ] at r0 r1
  have lr := blk_lt h
  have HR := hide1 h
  clear h
  obtain ⟨cf, cp⟩ := c
  simp only at r0 r1
  by_cases h0 : cf = 0
  · have e0 : addR e p ⟨cf, cp⟩ = ⟨e, p⟩ := by simp [addR, h0]
    rw [e0]
    have h0' : ((cf : Int) == 0) = true := by simp [h0]
    clear e0 h0
    go_enter Tryz.func46, Tryz.ntmps46
    go_wp2
    go_end0
    refine ⟨rfl, ?_, ((Only.refl _ _).set_at 1 _).set_at 0 _⟩
    have := (Box.set (w := w) HR.out 1 (.int .i64 e)).set 0 (.int .i64 p)
    simpa [WrBlk] using this
  · have h0' : ((cf : Int) == 0) = false := by simp [h0]
    by_cases h1 : p < cp
    · have e0 : addR e p ⟨cf, cp⟩ = ⟨e, p⟩ := by simp [addR, h1]
      rw [e0]
      have h1' : decide ((p : Int) < (cp : Int)) = true := by simp [h1]
      clear e0 h0
      go_enter Tryz.func46, Tryz.ntmps46
      go_wp2
      go_end0
      refine ⟨rfl, ?_, ((Only.refl _ _).set_at 1 _).set_at 0 _⟩
      have := (Box.set (w := w) HR.out 1 (.int .i64 e)).set 0 (.int .i64 p)
      simpa [WrBlk] using this
    · have h1' : decide ((p : Int) < (cp : Int)) = false := by simp; omega
      by_cases h2 : p = cp
      · have h2' : ((p : Int) == (cp : Int)) = true := by simp [h2]
        by_cases h3 : e < cf
        · have e0 : addR e p ⟨cf, cp⟩ = ⟨e, p⟩ := by simp [addR, h2, h3]
          rw [e0]
          have h3' : decide ((e : Int) < (cf : Int)) = true := by simp [h3]
          clear e0 h0 h2
          go_enter Tryz.func46, Tryz.ntmps46
          go_wp2
          go_end0
          refine ⟨rfl, ?_, ((Only.refl _ _).set_at 1 _).set_at 0 _⟩
          have := (Box.set (w := w) HR.out 1 (.int .i64 e)).set 0 (.int .i64 p)
          simpa [WrBlk] using this
        · have e0 : addR e p ⟨cf, cp⟩ = ⟨cf, cp⟩ := by unfold addR; rw [if_neg (by simp only; omega)]
          rw [e0]
          have h3' : decide ((e : Int) < (cf : Int)) = false := by simp; omega
          clear e0 h0 h2
          go_enter Tryz.func46, Tryz.ntmps46
          go_wp2
          go_end0
          exact ⟨rfl, HR.out, Only.refl _ _⟩
      · have e0 : addR e p ⟨cf, cp⟩ = ⟨cf, cp⟩ := by unfold addR; rw [if_neg (by simp only; omega)]
        rw [e0]
        have h2' : ((p : Int) == (cp : Int)) = false := by simp; omega
        clear e0 h0
        go_enter Tryz.func46, Tryz.ntmps46
        go_wp2
        go_end0
        exact ⟨rfl, HR.out, Only.refl _ _⟩

end Go.Proofs.YtgbmakpdjdigmaaGreatDoor

/- The reference's checks: variable, function, declare: what each leaves. -/
namespace Go.Proofs.YtgbmakpdjdigmaaGreatDoor
open Go.RowKit

/-- What the checks stand in. -/
structure RK (pb wb B pl ca : Nat) (U : Nat → Prop) (fv sv : Value) (fns : List RF) (fs : List FS) (c : CS) (w : World) : Prop where
  pr : PrBlk pb fv sv pl ca w
  fn : FnRow B w fv fns
  st : StRow B U w sv fs
  wr : WrBlk wb c w
/-- What they may turn: the faults' block, the functions' row, rows of strings. -/
def KX (wb B : Nat) (fv : Value) (w : World) (k : Nat) : Prop := k = wb ∨ fv.ownBlock = some k ∨ (B ≤ k ∧ ∃ cs fz, w.heap[k]? = some (.cells cs 9 fz))
def KFr (wb B : Nat) (fv : Value) (w w' : World) : Prop := Only (KX wb B fv w) w w'
theorem KFr.refl (wb B : Nat) (fv : Value) (w : World) : KFr wb B fv w w := Only.refl _ _
theorem KFr.trans {wb B : Nat} {fv : Value} {a b c : World} (h : KFr wb B fv a b) (k : KFr wb B fv b c) : KFr wb B fv a c := by
  refine ⟨k.os.trans h.os, k.tape.trans h.tape, k.output.trans h.output, Nat.le_trans h.size k.size, fun i hi hx => ?_⟩
  have e := h.block i hi hx
  rw [k.block i (Nat.lt_of_lt_of_le hi h.size) ?_, e]
  rintro (q | q | ⟨hq, cs, fz, q⟩)
  · exact hx (.inl q)
  · exact hx (.inr (.inl q))
  · rw [e] at q; exact hx (.inr (.inr ⟨hq, cs, fz, q⟩))
theorem KFr.ofOnly {wb B : Nat} {fv : Value} {a b : World} (h : Only (fun k => k = wb) a b) : KFr wb B fv a b := h.mono (fun _ _ q => .inl q)
theorem KFr.ofStill {wb B : Nat} {fv : Value} {a b : World} (h : Only (fun _ => False) a b) : KFr wb B fv a b := h.mono (fun _ _ q => q.elim)
theorem KFr.box {wb B b : Nat} {fv : Value} {cs : Array Value} {t : TypeId} {w w' : World} (h : KFr wb B fv w w') (hb : Box b cs t w) (h1 : b ≠ wb) (h2 : fv.ownBlock ≠ some b) (h3 : t ≠ 9) : Box b cs t w' := by
  refine hb.only h ?_
  rintro (q | q | ⟨_, ds, fz, q⟩)
  · exact h1 q
  · exact h2 q
  · have hb' : w.heap[b]? = _ := hb
    rw [q] at hb'
    simp only [Option.some.injEq, Obj.cells.injEq] at hb'
    exact h3 hb'.2.1.symm
theorem KFr.row {wb B : Nat} {fv : Value} {e : TypeId} {size : Nat} {v : Value} {n : Nat} {xs : List Value} {w w' : World} (h : KFr wb B fv w w') (hr : w.ownsRow B e size v n xs) {c : CS} (hw : WrBlk wb c w) {fns : List RF} (hf : FnRow B w fv fns) (h1 : e ≠ 108) (h2 : e ≠ 116) (h3 : e ≠ 9) : w'.ownsRow B e size v n xs := by
  refine ownsRow_typed hr h ?_
  rintro k cs fz (q | q | ⟨_, ds, fz', q⟩) hk
  · subst q
    have hw' : w.heap[k]? = _ := hw
    rw [hk] at hw'
    simp only [Option.some.injEq, Obj.cells.injEq] at hw'
    exact h1 hw'.2.1
  · obtain ⟨cs', hrow, _⟩ := hf
    rcases hrow.2 with ⟨q', _⟩ | ⟨g', cap', cur', hv, _, hh, _⟩
    · rw [q'] at q; simp [Value.ownBlock] at q
    · rw [hv] at q
      simp [Value.ownBlock] at q
      subst q
      rw [hk] at hh
      simp only [Option.some.injEq, Obj.cells.injEq] at hh
      exact h2 hh.2.1
  · rw [hk] at q
    simp only [Option.some.injEq, Obj.cells.injEq] at q
    exact h3 q.2.1
section
variable {pb wb B pl ca : Nat} {U : Nat → Prop} {fv sv : Value} {fns : List RF} {fs : List FS} {c : CS} {w w' : World}
theorem RK.fne (K : RK pb wb B pl ca U fv sv fns fs c w) : ∀ k, fv.ownBlock = some k → k ≠ wb ∧ k ≠ pb := by
  intro k hk
  obtain ⟨cs, hrow, _⟩ := K.fn
  exact ⟨own_ne hrow K.wr (by decide) k hk, own_ne hrow K.pr (by decide) k hk⟩
theorem RK.sne (K : RK pb wb B pl ca U fv sv fns fs c w) : ∀ k, sv.ownBlock = some k → k ≠ wb ∧ k ≠ pb := by
  intro k hk
  obtain ⟨cs, hrow, _⟩ := K.st
  exact ⟨own_ne hrow K.wr (by decide) k hk, own_ne hrow K.pr (by decide) k hk⟩
theorem RK.pw (K : RK pb wb B pl ca U fv sv fns fs c w) : pb ≠ wb := K.pr.box.ne K.wr (by decide)
theorem RK.still (K : RK pb wb B pl ca U fv sv fns fs c w) (ho : Only (fun _ => False) w w') : RK pb wb B pl ca U fv sv fns fs c w' :=
  ⟨K.pr.box.only ho (fun q => q), K.fn.still ho, K.st.still ho, Box.only K.wr ho (fun q => q)⟩
theorem RK.add {c' : CS} (K : RK pb wb B pl ca U fv sv fns fs c w) (hw : WrBlk wb c' w') (ho : Only (fun k => k = wb) w w') : RK pb wb B pl ca U fv sv fns fs c' w' := by
  have ty : ∀ (k : Nat) (cs : Array Value) (t : TypeId) (fz : Nat × Nat), k = wb → w.heap[k]? = some (.cells cs t fz) → t = 108 := by
    intro k cs t fz hk hc
    subst hk
    have hw' : w.heap[k]? = _ := K.wr
    rw [hc] at hw'
    simp only [Option.some.injEq, Obj.cells.injEq] at hw'
    exact hw'.2.1
  exact ⟨K.pr.box.only ho K.pw, K.fn.only ho (fun k hk => (K.fne k hk).1) (fun k cs t fz hk hc => by rw [ty k cs t fz hk hc]; decide), K.st.only ho (fun k hk => (K.sne k hk).1) (fun k cs t fz hk hc => by rw [ty k cs t fz hk hc]; decide), hw⟩
end
def varR (vs : List ByteArray) (t : Tk) (c : CS) : CS := if 0 ≤ fiR vs t.text 0 then c else addR 6 t.pos c
/-- A function's name, called with so many arguments (-1: not called). -/
def funR (fns : List RF) (t : Tk) (many : Int) (c : CS) : CS :=
  if 0 ≤ fiR (fns.map fun f => f.name.text) t.text 0 then
    (if 0 ≤ many ∧ ((((fns.map fun f => f.takes.length)[(fiR (fns.map fun f => f.name.text) t.text 0).toNat]?).getD 0 : Nat) : Int) ≠ many then addR 7 t.pos c else c)
  else addR 6 t.pos c
def declR (vs : List ByteArray) (t : Tk) (c : CS) : CS :=
  let c1 := if 12 ≤ vs.length then addR 4 t.pos c else c
  if 0 ≤ fiR vs t.text 0 then addR 5 t.pos c1 else c1

set_option maxRecDepth 100000 in
set_option maxHeartbeats 1000000 in
theorem rvariable_any (pb wb B pl ca inn : Nat) (U : Nat → Prop) (fv sv : Value) (fns : List RF) (fs : List FS) (c : CS) (t : Tk) (w : World) (K : RK pb wb B pl ca U fv sv fns fs c w) (hi : inn < fns.length) (hn : fns.length ≤ 4001) (hv : fns[inn].vars.length ≤ 4001) :
    Calls Tryz.prog 93 #[.pointer (some ⟨pb, 0, none⟩), .pointer (some ⟨wb, 0, none⟩), .int .i64 inn, tkV t] w fun e w' => e = .returned (.tuple #[]) ∧ RK pb wb B pl ca U fv sv fns fs (varR fns[inn].vars t c) w' ∧ KFr wb B fv w w' := by
  have p0 := K.pr.box.cell 0
  simp at p0
  have lp := blk_lt K.pr
  have lw := blk_lt K.wr
  have hfl := K.fn
  obtain ⟨cs, p1, _⟩ := hfl
  obtain ⟨va, vl, vc, rfl⟩ := owns_form p1
  have hvl := own_len p1
  subst hvl
  obtain ⟨g, rfl⟩ := own_some p1 (by omega)
  have lg := (p1.lt g rfl).2
  obtain ⟨tv, bv, vv, hc, _, _, hvv⟩ := K.fn.get hi
  have c6 := hc 6 (by omega)
  simp only [rfA, List.getElem?_toArray, List.getElem?_cons_zero, List.getElem?_cons_succ] at c6
  obtain ⟨xa, xl, xc, rfl⟩ := owns_form hvv
  have hii : (inn : Int) < (fns.length : Int) := by omega
  have HK := hide1 K
  have HVV := hide1 hvv
  clear hc p1 K hvv
  generalize hvs : fns[inn].vars = vs at *
  clear hvs
  unfold tkV
  have hq : ∀ n : Nat, StrsAt B (((w.alloc (.cells #[.string t.text, .int .i64 t.pos, .int .i64 t.sort] 114))).drewN n) (.slice xa xl xc) vs := fun n => ownsRow_only HVV.out (((Only.refl (fun _ => False) w).alloc _).drewN n) (fun _ _ q => q)
  by_cases h0 : 0 ≤ fiR vs t.text 0
  · have e0 : varR vs t c = c := by simp [varR, h0]
    rw [e0]
    have h0' : decide (fiR vs t.text 0 < 0) = false := by simp; exact h0
    clear e0 h0
    go_enter Tryz.func93, Tryz.ntmps93
    go_wp2
    go_quiet ((go_at_call 92; refine Calls.quiet_of_same (find_any B _ vs t.text _ (hq _) hv)))
    go_wp2
    go_end0
    exact ⟨rfl, HK.out.still (((Only.refl _ w).alloc _).drewN _), KFr.ofStill (((Only.refl _ w).alloc _).drewN _)⟩
  · have e0 : varR vs t c = addR 6 t.pos c := by simp [varR, h0]
    rw [e0]
    have h0' : decide (fiR vs t.text 0 < 0) = true := by simp; omega
    clear e0 h0
    go_enter Tryz.func93, Tryz.ntmps93
    go_wp2
    go_quiet ((go_at_call 92; refine Calls.quiet_of_same (find_any B _ vs t.text _ (hq _) hv)))
    go_wp2_with (go_at_call 46; refine (radd_any wb 6 t.pos c _ (HK.out.still (((Only.refl _ w).alloc _).drewN _)).wr).mono ?_)
    rintro e w2 ⟨rfl, hr2, ho2⟩
    go_wp2
    go_end0
    exact ⟨rfl, (HK.out.still (((Only.refl _ w).alloc _).drewN _)).add hr2 ho2, (KFr.ofStill (((Only.refl _ w).alloc _).drewN _)).trans (KFr.ofOnly ho2)⟩

set_option maxRecDepth 100000 in
set_option maxHeartbeats 1000000 in
theorem rfunction_any (pb wb B pl ca : Nat) (U : Nat → Prop) (fv sv : Value) (fns : List RF) (fs : List FS) (c : CS) (t : Tk) (many : Int) (w : World) (K : RK pb wb B pl ca U fv sv fns fs c w) (hn : fns.length ≤ 4001) (hm : many = -1 ∨ ∃ a : Nat, many = a ∧ a ≤ 4001) :
    Calls Tryz.prog 129 #[.pointer (some ⟨pb, 0, none⟩), .pointer (some ⟨wb, 0, none⟩), tkV t, .int .i64 many] w fun e w' => e = .returned (.tuple #[]) ∧ RK pb wb B pl ca U fv sv fns fs (funR fns t many c) w' ∧ KFr wb B fv w w' := by
  have p0 := K.pr.box.cell 0
  simp at p0
  have lp := blk_lt K.pr
  have lw := blk_lt K.wr
  have hfl := K.fn
  obtain ⟨cs, p1, _⟩ := hfl
  obtain ⟨va, vl, vc, rfl⟩ := owns_form p1
  have hvl := own_len p1
  subst hvl
  have HK := hide1 K
  have hbd := fiR_mem (fns.map fun f => f.name.text) t.text 0
  have HA := hide1 ((Only.refl (fun _ => False) w).alloc (.cells #[.string t.text, .int .i64 t.pos, .int .i64 t.sort] 114))
  unfold tkV
  by_cases h0 : 0 ≤ fiR (fns.map fun f => f.name.text) t.text 0
  · obtain ⟨i, hi⟩ : ∃ i : Nat, fiR (fns.map fun f => f.name.text) t.text 0 = i := ⟨(fiR (fns.map fun f => f.name.text) t.text 0).toNat, by omega⟩
    have hil : i < fns.length := by have := hbd.2.2; simp only [List.length_map] at this; omega
    obtain ⟨g, rfl⟩ := own_some p1 (by omega)
    have lg := (p1.lt g rfl).2
    obtain ⟨tv, bv, vv, hc, htv, _, _⟩ := K.fn.get hil
    have c3 := hc 3 (by omega)
    simp only [rfA, List.getElem?_toArray, List.getElem?_cons_zero, List.getElem?_cons_succ] at c3
    obtain ⟨xa, xl, xc, rfl⟩ := owns_form htv
    have hxl := own_len htv
    have hii : (i : Int) < (fns.length : Int) := by omega
    have hi0 : decide ((i : Int) < 0) = false := by simp
    have hgo : (((fns.map fun f => f.takes.length)[i]?).getD 0 : Nat) = xl := by rw [List.getElem?_map, List.getElem?_eq_getElem hil, hxl]; rfl
    clear hc p1 K htv hbd
    rcases hm with hm | ⟨a, rfl, ha⟩
    · subst hm
      have e0 : funR fns t (-1) c = c := by simp [funR, h0]
      rw [e0]
      clear e0 h0
      go_enter Tryz.func129, Tryz.ntmps129
      go_wp2_with (go_at_call 47; refine (func_any B pb pl ca _ sv fns t.text _ (HK.out.still HA.out).pr (HK.out.still HA.out).fn hn).mono ?_; rw [hi]; rintro e w' ⟨rfl, hw⟩; have hw := hw.symm; subst hw)
      go_end0
      exact ⟨rfl, HK.out.still HA.out, KFr.ofStill HA.out⟩
    · by_cases hxa : xl = a
      · have e0 : funR fns t a c = c := by simp only [funR, hi, Int.toNat_natCast, hgo, hxa]; simp
        rw [e0]
        have hx' : ((xl : Int) != (a : Int)) = false := by simp [hxa]
        have hx2 : ((xl : Int) == (a : Int)) = true := by simp [hxa]
        have ha0 : decide ((0 : Int) ≤ (a : Int)) = true := by simp
        clear e0 h0
        go_enter Tryz.func129, Tryz.ntmps129
        go_wp2_with (go_at_call 47; refine (func_any B pb pl ca _ sv fns t.text _ (HK.out.still HA.out).pr (HK.out.still HA.out).fn hn).mono ?_; rw [hi]; rintro e w' ⟨rfl, hw⟩; have hw := hw.symm; subst hw)
        go_end0
        exact ⟨rfl, HK.out.still HA.out, KFr.ofStill HA.out⟩
      · have e0 : funR fns t a c = addR 7 t.pos c := by simp only [funR, hi, Int.toNat_natCast, hgo]; rw [if_pos (by omega), if_pos ⟨by omega, by omega⟩]
        rw [e0]
        have hx' : ((xl : Int) != (a : Int)) = true := by simp; omega
        have hx2 : ((xl : Int) == (a : Int)) = false := by simp; omega
        have ha0 : decide ((0 : Int) ≤ (a : Int)) = true := by simp
        clear e0 h0
        go_enter Tryz.func129, Tryz.ntmps129
        go_wp2_with (first | (go_at_call 47; refine (func_any B pb pl ca _ sv fns t.text _ (HK.out.still HA.out).pr (HK.out.still HA.out).fn hn).mono ?_; rw [hi]; rintro e w' ⟨rfl, hw⟩; have hw := hw.symm; subst hw) | (go_at_call 46; refine (radd_any wb 7 t.pos c _ (HK.out.still HA.out).wr).mono ?_; rintro e w2 ⟨rfl, hr2, ho2⟩))
        go_end0
        exact ⟨rfl, (HK.out.still HA.out).add hr2 ho2, (KFr.ofStill HA.out).trans (KFr.ofOnly ho2)⟩
  · have hi : fiR (fns.map fun f => f.name.text) t.text 0 = -1 := by have := hbd.2.1; omega
    have e0 : funR fns t many c = addR 6 t.pos c := by simp [funR, hi]
    rw [e0]
    clear e0 h0 p1 K hbd
    go_enter Tryz.func129, Tryz.ntmps129
    go_wp2_with (first | (go_at_call 47; refine (func_any B pb pl ca _ sv fns t.text _ (HK.out.still HA.out).pr (HK.out.still HA.out).fn hn).mono ?_; rw [hi]; rintro e w' ⟨rfl, hw⟩; have hw := hw.symm; subst hw) | (go_at_call 46; refine (radd_any wb 6 t.pos c _ (HK.out.still HA.out).wr).mono ?_; rintro e w2 ⟨rfl, hr2, ho2⟩))
    refine bodyPost_ret (v := .tuple #[]) (by simp [results, Tryz.results129, go_sem]) rfl ⟨rfl, (HK.out.still HA.out).add hr2 ho2, (KFr.ofStill HA.out).trans (KFr.ofOnly ho2)⟩

end Go.Proofs.YtgbmakpdjdigmaaGreatDoor

/- CkF: told at each. -/
import Derived.Test.YtgbmakpdjdigmaaGreatDoorG13

/- The program's checker: what a walk of it stands in (Ck); statement where it has no blocks. -/
namespace Go.Proofs.YtgbmakpdjdigmaaGreatDoor
open Go.RowKit Go.Maps

/-- The checker in a function: its block, its maps, the program's rows. -/
structure Ck (b d : Nat) (U : Nat → Prop) (fs : Value) (fns : List TF) (stop : Int) (mf nf m n : Nat) (F D : DataW Unit) (c : CS) (w : World) : Prop where
  blk : CkBlk b fs stop (.map (some mf)) (.map (some m)) c w
  vars : MapAt m n D w
  fmap : MapAt mf nf F w
  rows : PRow d U w fs fns
  fin : FnsIn F fns.length
  few : fns.length ≤ 4001
  ne : m ≠ mf
  ub : ¬ U b
  um : ¬ U m
theorem Ck.only {b d : Nat} {U : Nat → Prop} {fs : Value} {fns : List TF} {stop : Int} {mf nf m n : Nat} {F D : DataW Unit} {c : CS} {w w' : World} {X : Nat → Prop} (h : Ck b d U fs fns stop mf nf m n F D c w) (ho : Only X w w') (h1 : ¬ X b) (h2 : ¬ X m) (h3 : ¬ X mf) (h4 : ∀ k, U k → ¬ X k) : Ck b d U fs fns stop mf nf m n F D c w' :=
  ⟨Box.only h.blk ho h1, h.vars.only ho h2, h.fmap.only ho h3, h.rows.only ho h4, h.fin, h.few, h.ne, h.ub, h.um⟩
theorem Ck.quiet {b d : Nat} {U : Nat → Prop} {fs : Value} {fns : List TF} {stop : Int} {mf nf m n : Nat} {F D : DataW Unit} {c : CS} {w w' : World} (h : Ck b d U fs fns stop mf nf m n F D c w) (ho : Only (fun _ => False) w w') : Ck b d U fs fns stop mf nf m n F D c w' :=
  h.only ho (fun q => q) (fun q => q) (fun q => q) (fun _ _ q => q)
theorem Ck.step {b d : Nat} {U : Nat → Prop} {fs : Value} {fns : List TF} {stop : Int} {mf nf m n : Nat} {F D : DataW Unit} {c c' : CS} {w w' : World} (h : Ck b d U fs fns stop mf nf m n F D c w) (hb : CkBlk b fs stop (.map (some mf)) (.map (some m)) c' w') (ho : Only (fun k => k = b) w w') : Ck b d U fs fns stop mf nf m n F D c' w' :=
  ⟨hb, h.vars.only ho (h.vars.ne h.blk), h.fmap.only ho (h.fmap.ne h.blk), h.rows.only ho (fun _ hk q => h.ub (q ▸ hk)), h.fin, h.few, h.ne, h.ub, h.um⟩
theorem Ck.stepV {b d : Nat} {U : Nat → Prop} {fs : Value} {fns : List TF} {stop : Int} {mf nf m n n' : Nat} {F D D' : DataW Unit} {c c' : CS} {w w' : World} (h : Ck b d U fs fns stop mf nf m n F D c w) (hb : CkBlk b fs stop (.map (some mf)) (.map (some m)) c' w') (hv : MapAt m n' D' w') (ho : Only (fun k => k = b ∨ k = m) w w') : Ck b d U fs fns stop mf nf m n' F D' c' w' :=
  ⟨hb, hv, h.fmap.only ho (fun q => q.elim (h.fmap.ne h.blk) (fun e => h.ne e.symm)), h.rows.only ho (fun _ hk q => q.elim (fun e => h.ub (e ▸ hk)) (fun e => h.um (e ▸ hk))), h.fin, h.few, h.ne, h.ub, h.um⟩
/-- The names of a statement are short. -/
structure VOk (s : VS) : Prop where
  tg : s.tg.text.size ≤ 4000
  tp : s.tg.place ≤ 4000
  sr : s.sr.text.size ≤ 4000
  ar : ∀ t, t ∈ s.args → t.text.size ≤ 4000
  al : s.args.length ≤ 4000
/-- What a statement without blocks does. -/
def plainC (F : DataW Unit) (fns : List TF) (s : VS) (x : DataW Unit × CS) : DataW Unit × CS :=
  match s.kind with
  | 0 => (declD x.1 s.tg, declC x.1 s.tg x.2)
  | 1 => (x.1, nameC x.1 s.tg x.2)
  | 4 => (x.1, nameC F s.sr (nameC x.1 s.tg x.2))
  | 7 => (x.1, namesC x.1 s.args (calledC F fns s.sr s.args.length (nameC x.1 s.tg x.2)))
  | 8 => (x.1, namesC x.1 s.args (nameC x.1 s.sr (nameC x.1 s.tg x.2)))
  | 10 => (x.1, nameC x.1 s.sr x.2)
  | _ => (x.1, nameC x.1 s.sr (nameC x.1 s.tg x.2))

set_option maxRecDepth 100000 in
set_option maxHeartbeats 2000000 in
theorem stmt_0 (b d dep : Nat) (U : Nat → Prop) (fs : Value) (fns : List TF) (stop : Int) (mf nf m n : Nat) (F D : DataW Unit) (c : CS) (s : VS) (av bv : Value) (w : World) (K : Ck b d U fs fns stop mf nf m n F D c w) (ho : VOk s) (hn : n ≤ 4000) (ha : w.ownsRow 0 197 2 av s.args.length (nmsCells s.args)) (hu : ∀ k, av.ownBlock = some k → U k) (hbv : ∃ a2 l2 c2, bv = .slice a2 l2 c2) (hk : s.kind = 0) :
    Calls Tryz.prog 211 #[.pointer (some ⟨b, 0, none⟩), .agg (vsB s av bv), .int .i64 dep] w fun e w' => e = .returned (.tuple #[]) ∧ (∃ n', n' ≤ n + 1 ∧ Ck b d U fs fns stop mf nf m n' F (plainC F fns s (D, c)).1 (plainC F fns s (D, c)).2 w') ∧ Only (fun k => k = b ∨ k = m) w w' := by
  obtain ⟨kind, tg, sr, field, args⟩ := s
  simp only at hk ha
  subst hk
  obtain ⟨a1, l1, c1, rfl⟩ := owns_form ha
  have hl1 := own_len ha
  subst hl1
  obtain ⟨a2, l2, c2, rfl⟩ := hbv
  have lb := blk_lt K.blk
  have ht := ho.tg
  have htp := ho.tp
  have hs := ho.sr
  have har := ho.ar
  have hal := ho.al
  simp only at ht htp hs har hal
  have K0 := hide1 (K.quiet ((Only.refl (fun _ => False) w).alloc (.cells #[.int .i64 0, .string tg.text, .int .i64 tg.place, .string sr.text, .int .i64 sr.place, .int .i64 field, .slice a1 args.length c1, .slice a2 l2 c2] 318)))
  have S0 := hide1 (Box.new w #[.int .i64 0, .string tg.text, .int .i64 tg.place, .string sr.text, .int .i64 sr.place, .int .i64 field, .slice a1 args.length c1, .slice a2 l2 c2] 318)
  have O0 := hide1 ((Only.refl (fun k => k = b ∨ k = m) w).alloc (.cells #[.int .i64 0, .string tg.text, .int .i64 tg.place, .string sr.text, .int .i64 sr.place, .int .i64 field, .slice a1 args.length c1, .slice a2 l2 c2] 318))
  have A0 := hide1 (ownsRow_only ha ((Only.refl (fun _ => False) w).alloc (.cells #[.int .i64 0, .string tg.text, .int .i64 tg.place, .string sr.text, .int .i64 sr.place, .int .i64 field, .slice a1 args.length c1, .slice a2 l2 c2] 318)) (fun _ _ q => q))
  have hub : ∀ k, (Value.slice a1 args.length c1).ownBlock = some k → k ≠ b := fun k hk e => K.ub (e ▸ hu k hk)
  clear K ha ho
  unfold vsB plainC
  simp only
  go_enter Tryz.func211, Tryz.ntmps211
  go_wp2_with (go_at_call 175; refine (declare_any b fs stop (.map (some mf)) m n D _ tg _ K0.out.blk K0.out.vars ht htp hn).mono ?_)
  rintro e w1 ⟨rfl, hr, hv, hx⟩
  have K1 := hide1 (K0.out.stepV hr hv hx)
  have O1 := hide1 (O0.out.trans hx)
  clear hr hv hx
  go_wp2
  go_end0
  exact ⟨rfl, ⟨n + 1, by omega, K1.out⟩, O1.out⟩

set_option maxRecDepth 100000 in
set_option maxHeartbeats 2000000 in
theorem stmt_1 (b d dep : Nat) (U : Nat → Prop) (fs : Value) (fns : List TF) (stop : Int) (mf nf m n : Nat) (F D : DataW Unit) (c : CS) (s : VS) (av bv : Value) (w : World) (K : Ck b d U fs fns stop mf nf m n F D c w) (ho : VOk s) (_hn : n ≤ 4000) (ha : w.ownsRow 0 197 2 av s.args.length (nmsCells s.args)) (hu : ∀ k, av.ownBlock = some k → U k) (hbv : ∃ a2 l2 c2, bv = .slice a2 l2 c2) (hk : s.kind = 1) :
    Calls Tryz.prog 211 #[.pointer (some ⟨b, 0, none⟩), .agg (vsB s av bv), .int .i64 dep] w fun e w' => e = .returned (.tuple #[]) ∧ (∃ n', n' ≤ n + 1 ∧ Ck b d U fs fns stop mf nf m n' F (plainC F fns s (D, c)).1 (plainC F fns s (D, c)).2 w') ∧ Only (fun k => k = b ∨ k = m) w w' := by
  obtain ⟨kind, tg, sr, field, args⟩ := s
  simp only at hk ha
  subst hk
  obtain ⟨a1, l1, c1, rfl⟩ := owns_form ha
  have hl1 := own_len ha
  subst hl1
  obtain ⟨a2, l2, c2, rfl⟩ := hbv
  have lb := blk_lt K.blk
  have ht := ho.tg
  have htp := ho.tp
  have hs := ho.sr
  have har := ho.ar
  have hal := ho.al
  simp only at ht htp hs har hal
  have K0 := hide1 (K.quiet ((Only.refl (fun _ => False) w).alloc (.cells #[.int .i64 1, .string tg.text, .int .i64 tg.place, .string sr.text, .int .i64 sr.place, .int .i64 field, .slice a1 args.length c1, .slice a2 l2 c2] 318)))
  have S0 := hide1 (Box.new w #[.int .i64 1, .string tg.text, .int .i64 tg.place, .string sr.text, .int .i64 sr.place, .int .i64 field, .slice a1 args.length c1, .slice a2 l2 c2] 318)
  have O0 := hide1 ((Only.refl (fun k => k = b ∨ k = m) w).alloc (.cells #[.int .i64 1, .string tg.text, .int .i64 tg.place, .string sr.text, .int .i64 sr.place, .int .i64 field, .slice a1 args.length c1, .slice a2 l2 c2] 318))
  have A0 := hide1 (ownsRow_only ha ((Only.refl (fun _ => False) w).alloc (.cells #[.int .i64 1, .string tg.text, .int .i64 tg.place, .string sr.text, .int .i64 sr.place, .int .i64 field, .slice a1 args.length c1, .slice a2 l2 c2] 318)) (fun _ _ q => q))
  have hub : ∀ k, (Value.slice a1 args.length c1).ownBlock = some k → k ≠ b := fun k hk e => K.ub (e ▸ hu k hk)
  clear K ha ho
  unfold vsB plainC
  simp only
  go_enter Tryz.func211, Tryz.ntmps211
  go_wp2_with (go_at_call 233; refine (variable_any b fs stop (.map (some mf)) m n D _ tg _ K0.out.blk K0.out.vars ht).mono ?_)
  rintro e w1 ⟨rfl, hr, hx⟩
  have K1 := hide1 (K0.out.step hr hx)
  have O1 := hide1 (O0.out.trans (hx.mono (fun _ _ q => .inl q)))
  clear hr hx
  go_wp2
  go_end0
  exact ⟨rfl, ⟨n, by omega, K1.out⟩, O1.out⟩

set_option maxRecDepth 100000 in
set_option maxHeartbeats 2000000 in
theorem stmt_2 (b d dep : Nat) (U : Nat → Prop) (fs : Value) (fns : List TF) (stop : Int) (mf nf m n : Nat) (F D : DataW Unit) (c : CS) (s : VS) (av bv : Value) (w : World) (K : Ck b d U fs fns stop mf nf m n F D c w) (ho : VOk s) (_hn : n ≤ 4000) (ha : w.ownsRow 0 197 2 av s.args.length (nmsCells s.args)) (hu : ∀ k, av.ownBlock = some k → U k) (hbv : ∃ a2 l2 c2, bv = .slice a2 l2 c2) (hk : s.kind = 2) :
    Calls Tryz.prog 211 #[.pointer (some ⟨b, 0, none⟩), .agg (vsB s av bv), .int .i64 dep] w fun e w' => e = .returned (.tuple #[]) ∧ (∃ n', n' ≤ n + 1 ∧ Ck b d U fs fns stop mf nf m n' F (plainC F fns s (D, c)).1 (plainC F fns s (D, c)).2 w') ∧ Only (fun k => k = b ∨ k = m) w w' := by
  obtain ⟨kind, tg, sr, field, args⟩ := s
  simp only at hk ha
  subst hk
  obtain ⟨a1, l1, c1, rfl⟩ := owns_form ha
  have hl1 := own_len ha
  subst hl1
  obtain ⟨a2, l2, c2, rfl⟩ := hbv
  have lb := blk_lt K.blk
  have ht := ho.tg
  have htp := ho.tp
  have hs := ho.sr
  have har := ho.ar
  have hal := ho.al
  simp only at ht htp hs har hal
  have K0 := hide1 (K.quiet ((Only.refl (fun _ => False) w).alloc (.cells #[.int .i64 2, .string tg.text, .int .i64 tg.place, .string sr.text, .int .i64 sr.place, .int .i64 field, .slice a1 args.length c1, .slice a2 l2 c2] 318)))
  have S0 := hide1 (Box.new w #[.int .i64 2, .string tg.text, .int .i64 tg.place, .string sr.text, .int .i64 sr.place, .int .i64 field, .slice a1 args.length c1, .slice a2 l2 c2] 318)
  have O0 := hide1 ((Only.refl (fun k => k = b ∨ k = m) w).alloc (.cells #[.int .i64 2, .string tg.text, .int .i64 tg.place, .string sr.text, .int .i64 sr.place, .int .i64 field, .slice a1 args.length c1, .slice a2 l2 c2] 318))
  have A0 := hide1 (ownsRow_only ha ((Only.refl (fun _ => False) w).alloc (.cells #[.int .i64 2, .string tg.text, .int .i64 tg.place, .string sr.text, .int .i64 sr.place, .int .i64 field, .slice a1 args.length c1, .slice a2 l2 c2] 318)) (fun _ _ q => q))
  have hub : ∀ k, (Value.slice a1 args.length c1).ownBlock = some k → k ≠ b := fun k hk e => K.ub (e ▸ hu k hk)
  clear K ha ho
  unfold vsB plainC
  simp only
  go_enter Tryz.func211, Tryz.ntmps211
  go_wp2_with (go_at_call 233; refine (variable_any b fs stop (.map (some mf)) m n D _ tg _ K0.out.blk K0.out.vars ht).mono ?_)
  rintro e w1 ⟨rfl, hr, hx⟩
  have K1 := hide1 (K0.out.step hr hx)
  have O1 := hide1 (O0.out.trans (hx.mono (fun _ _ q => .inl q)))
  have S1 := hide1 (Box.only S0.out hx (by omega))
  have A1 := hide1 (ownsRow_only A0.out hx hub)
  have q1_0 := blk_cell S1.out 0
  have q1_1 := blk_cell S1.out 1
  have q1_2 := blk_cell S1.out 2
  have q1_3 := blk_cell S1.out 3
  have q1_4 := blk_cell S1.out 4
  have q1_5 := blk_cell S1.out 5
  have q1_6 := blk_cell S1.out 6
  have q1_7 := blk_cell S1.out 7
  simp only [List.getElem?_toArray, List.getElem?_cons_zero, List.getElem?_cons_succ] at q1_0 q1_1 q1_2 q1_3 q1_4 q1_5 q1_6 q1_7
  have z1 := O1.out.size
  clear hr hx
  go_wp2_with (go_at_call 233; refine (variable_any b fs stop (.map (some mf)) m n D _ sr _ K1.out.blk K1.out.vars hs).mono ?_)
  rintro e w2 ⟨rfl, hr, hx⟩
  have K2 := hide1 (K1.out.step hr hx)
  have O2 := hide1 (O1.out.trans (hx.mono (fun _ _ q => .inl q)))
  clear hr hx
  go_wp2
  go_end0
  exact ⟨rfl, ⟨n, by omega, K2.out⟩, O2.out⟩

set_option maxRecDepth 100000 in
set_option maxHeartbeats 2000000 in
theorem stmt_3 (b d dep : Nat) (U : Nat → Prop) (fs : Value) (fns : List TF) (stop : Int) (mf nf m n : Nat) (F D : DataW Unit) (c : CS) (s : VS) (av bv : Value) (w : World) (K : Ck b d U fs fns stop mf nf m n F D c w) (ho : VOk s) (_hn : n ≤ 4000) (ha : w.ownsRow 0 197 2 av s.args.length (nmsCells s.args)) (hu : ∀ k, av.ownBlock = some k → U k) (hbv : ∃ a2 l2 c2, bv = .slice a2 l2 c2) (hk : s.kind = 3) :
    Calls Tryz.prog 211 #[.pointer (some ⟨b, 0, none⟩), .agg (vsB s av bv), .int .i64 dep] w fun e w' => e = .returned (.tuple #[]) ∧ (∃ n', n' ≤ n + 1 ∧ Ck b d U fs fns stop mf nf m n' F (plainC F fns s (D, c)).1 (plainC F fns s (D, c)).2 w') ∧ Only (fun k => k = b ∨ k = m) w w' := by
  obtain ⟨kind, tg, sr, field, args⟩ := s
  simp only at hk ha
  subst hk
  obtain ⟨a1, l1, c1, rfl⟩ := owns_form ha
  have hl1 := own_len ha
  subst hl1
  obtain ⟨a2, l2, c2, rfl⟩ := hbv
  have lb := blk_lt K.blk
  have ht := ho.tg
  have htp := ho.tp
  have hs := ho.sr
  have har := ho.ar
  have hal := ho.al
  simp only at ht htp hs har hal
  have K0 := hide1 (K.quiet ((Only.refl (fun _ => False) w).alloc (.cells #[.int .i64 3, .string tg.text, .int .i64 tg.place, .string sr.text, .int .i64 sr.place, .int .i64 field, .slice a1 args.length c1, .slice a2 l2 c2] 318)))
  have S0 := hide1 (Box.new w #[.int .i64 3, .string tg.text, .int .i64 tg.place, .string sr.text, .int .i64 sr.place, .int .i64 field, .slice a1 args.length c1, .slice a2 l2 c2] 318)
  have O0 := hide1 ((Only.refl (fun k => k = b ∨ k = m) w).alloc (.cells #[.int .i64 3, .string tg.text, .int .i64 tg.place, .string sr.text, .int .i64 sr.place, .int .i64 field, .slice a1 args.length c1, .slice a2 l2 c2] 318))
  have A0 := hide1 (ownsRow_only ha ((Only.refl (fun _ => False) w).alloc (.cells #[.int .i64 3, .string tg.text, .int .i64 tg.place, .string sr.text, .int .i64 sr.place, .int .i64 field, .slice a1 args.length c1, .slice a2 l2 c2] 318)) (fun _ _ q => q))
  have hub : ∀ k, (Value.slice a1 args.length c1).ownBlock = some k → k ≠ b := fun k hk e => K.ub (e ▸ hu k hk)
  clear K ha ho
  unfold vsB plainC
  simp only
  go_enter Tryz.func211, Tryz.ntmps211
  go_wp2_with (go_at_call 233; refine (variable_any b fs stop (.map (some mf)) m n D _ tg _ K0.out.blk K0.out.vars ht).mono ?_)
  rintro e w1 ⟨rfl, hr, hx⟩
  have K1 := hide1 (K0.out.step hr hx)
  have O1 := hide1 (O0.out.trans (hx.mono (fun _ _ q => .inl q)))
  have S1 := hide1 (Box.only S0.out hx (by omega))
  have A1 := hide1 (ownsRow_only A0.out hx hub)
  have q1_0 := blk_cell S1.out 0
  have q1_1 := blk_cell S1.out 1
  have q1_2 := blk_cell S1.out 2
  have q1_3 := blk_cell S1.out 3
  have q1_4 := blk_cell S1.out 4
  have q1_5 := blk_cell S1.out 5
  have q1_6 := blk_cell S1.out 6
  have q1_7 := blk_cell S1.out 7
  simp only [List.getElem?_toArray, List.getElem?_cons_zero, List.getElem?_cons_succ] at q1_0 q1_1 q1_2 q1_3 q1_4 q1_5 q1_6 q1_7
  have z1 := O1.out.size
  clear hr hx
  go_wp2_with (go_at_call 233; refine (variable_any b fs stop (.map (some mf)) m n D _ sr _ K1.out.blk K1.out.vars hs).mono ?_)
  rintro e w2 ⟨rfl, hr, hx⟩
  have K2 := hide1 (K1.out.step hr hx)
  have O2 := hide1 (O1.out.trans (hx.mono (fun _ _ q => .inl q)))
  clear hr hx
  go_wp2
  go_end0
  exact ⟨rfl, ⟨n, by omega, K2.out⟩, O2.out⟩

set_option maxRecDepth 100000 in
set_option maxHeartbeats 2000000 in
theorem stmt_4 (b d dep : Nat) (U : Nat → Prop) (fs : Value) (fns : List TF) (stop : Int) (mf nf m n : Nat) (F D : DataW Unit) (c : CS) (s : VS) (av bv : Value) (w : World) (K : Ck b d U fs fns stop mf nf m n F D c w) (ho : VOk s) (_hn : n ≤ 4000) (ha : w.ownsRow 0 197 2 av s.args.length (nmsCells s.args)) (hu : ∀ k, av.ownBlock = some k → U k) (hbv : ∃ a2 l2 c2, bv = .slice a2 l2 c2) (hk : s.kind = 4) :
    Calls Tryz.prog 211 #[.pointer (some ⟨b, 0, none⟩), .agg (vsB s av bv), .int .i64 dep] w fun e w' => e = .returned (.tuple #[]) ∧ (∃ n', n' ≤ n + 1 ∧ Ck b d U fs fns stop mf nf m n' F (plainC F fns s (D, c)).1 (plainC F fns s (D, c)).2 w') ∧ Only (fun k => k = b ∨ k = m) w w' := by
  obtain ⟨kind, tg, sr, field, args⟩ := s
  simp only at hk ha
  subst hk
  obtain ⟨a1, l1, c1, rfl⟩ := owns_form ha
  have hl1 := own_len ha
  subst hl1
  obtain ⟨a2, l2, c2, rfl⟩ := hbv
  have lb := blk_lt K.blk
  have ht := ho.tg
  have htp := ho.tp
  have hs := ho.sr
  have har := ho.ar
  have hal := ho.al
  simp only at ht htp hs har hal
  have K0 := hide1 (K.quiet ((Only.refl (fun _ => False) w).alloc (.cells #[.int .i64 4, .string tg.text, .int .i64 tg.place, .string sr.text, .int .i64 sr.place, .int .i64 field, .slice a1 args.length c1, .slice a2 l2 c2] 318)))
  have S0 := hide1 (Box.new w #[.int .i64 4, .string tg.text, .int .i64 tg.place, .string sr.text, .int .i64 sr.place, .int .i64 field, .slice a1 args.length c1, .slice a2 l2 c2] 318)
  have O0 := hide1 ((Only.refl (fun k => k = b ∨ k = m) w).alloc (.cells #[.int .i64 4, .string tg.text, .int .i64 tg.place, .string sr.text, .int .i64 sr.place, .int .i64 field, .slice a1 args.length c1, .slice a2 l2 c2] 318))
  have A0 := hide1 (ownsRow_only ha ((Only.refl (fun _ => False) w).alloc (.cells #[.int .i64 4, .string tg.text, .int .i64 tg.place, .string sr.text, .int .i64 sr.place, .int .i64 field, .slice a1 args.length c1, .slice a2 l2 c2] 318)) (fun _ _ q => q))
  have hub : ∀ k, (Value.slice a1 args.length c1).ownBlock = some k → k ≠ b := fun k hk e => K.ub (e ▸ hu k hk)
  clear K ha ho
  unfold vsB plainC
  simp only
  go_enter Tryz.func211, Tryz.ntmps211
  go_wp2_with (go_at_call 233; refine (variable_any b fs stop (.map (some mf)) m n D _ tg _ K0.out.blk K0.out.vars ht).mono ?_)
  rintro e w1 ⟨rfl, hr, hx⟩
  have K1 := hide1 (K0.out.step hr hx)
  have O1 := hide1 (O0.out.trans (hx.mono (fun _ _ q => .inl q)))
  have S1 := hide1 (Box.only S0.out hx (by omega))
  have A1 := hide1 (ownsRow_only A0.out hx hub)
  have q1_0 := blk_cell S1.out 0
  have q1_1 := blk_cell S1.out 1
  have q1_2 := blk_cell S1.out 2
  have q1_3 := blk_cell S1.out 3
  have q1_4 := blk_cell S1.out 4
  have q1_5 := blk_cell S1.out 5
  have q1_6 := blk_cell S1.out 6
  have q1_7 := blk_cell S1.out 7
  simp only [List.getElem?_toArray, List.getElem?_cons_zero, List.getElem?_cons_succ] at q1_0 q1_1 q1_2 q1_3 q1_4 q1_5 q1_6 q1_7
  have z1 := O1.out.size
  clear hr hx
  go_wp2_with (go_at_call 234; refine (functionName_any b fs stop (.map (some m)) mf nf F _ sr _ K1.out.blk K1.out.fmap hs).mono ?_)
  rintro e w2 ⟨rfl, hr, hx⟩
  have K2 := hide1 (K1.out.step hr hx)
  have O2 := hide1 (O1.out.trans (hx.mono (fun _ _ q => .inl q)))
  clear hr hx
  go_wp2
  go_end0
  exact ⟨rfl, ⟨n, by omega, K2.out⟩, O2.out⟩

set_option maxRecDepth 100000 in
set_option maxHeartbeats 2000000 in
theorem stmt_5 (b d dep : Nat) (U : Nat → Prop) (fs : Value) (fns : List TF) (stop : Int) (mf nf m n : Nat) (F D : DataW Unit) (c : CS) (s : VS) (av bv : Value) (w : World) (K : Ck b d U fs fns stop mf nf m n F D c w) (ho : VOk s) (_hn : n ≤ 4000) (ha : w.ownsRow 0 197 2 av s.args.length (nmsCells s.args)) (hu : ∀ k, av.ownBlock = some k → U k) (hbv : ∃ a2 l2 c2, bv = .slice a2 l2 c2) (hk : s.kind = 5) :
    Calls Tryz.prog 211 #[.pointer (some ⟨b, 0, none⟩), .agg (vsB s av bv), .int .i64 dep] w fun e w' => e = .returned (.tuple #[]) ∧ (∃ n', n' ≤ n + 1 ∧ Ck b d U fs fns stop mf nf m n' F (plainC F fns s (D, c)).1 (plainC F fns s (D, c)).2 w') ∧ Only (fun k => k = b ∨ k = m) w w' := by
  obtain ⟨kind, tg, sr, field, args⟩ := s
  simp only at hk ha
  subst hk
  obtain ⟨a1, l1, c1, rfl⟩ := owns_form ha
  have hl1 := own_len ha
  subst hl1
  obtain ⟨a2, l2, c2, rfl⟩ := hbv
  have lb := blk_lt K.blk
  have ht := ho.tg
  have htp := ho.tp
  have hs := ho.sr
  have har := ho.ar
  have hal := ho.al
  simp only at ht htp hs har hal
  have K0 := hide1 (K.quiet ((Only.refl (fun _ => False) w).alloc (.cells #[.int .i64 5, .string tg.text, .int .i64 tg.place, .string sr.text, .int .i64 sr.place, .int .i64 field, .slice a1 args.length c1, .slice a2 l2 c2] 318)))
  have S0 := hide1 (Box.new w #[.int .i64 5, .string tg.text, .int .i64 tg.place, .string sr.text, .int .i64 sr.place, .int .i64 field, .slice a1 args.length c1, .slice a2 l2 c2] 318)
  have O0 := hide1 ((Only.refl (fun k => k = b ∨ k = m) w).alloc (.cells #[.int .i64 5, .string tg.text, .int .i64 tg.place, .string sr.text, .int .i64 sr.place, .int .i64 field, .slice a1 args.length c1, .slice a2 l2 c2] 318))
  have A0 := hide1 (ownsRow_only ha ((Only.refl (fun _ => False) w).alloc (.cells #[.int .i64 5, .string tg.text, .int .i64 tg.place, .string sr.text, .int .i64 sr.place, .int .i64 field, .slice a1 args.length c1, .slice a2 l2 c2] 318)) (fun _ _ q => q))
  have hub : ∀ k, (Value.slice a1 args.length c1).ownBlock = some k → k ≠ b := fun k hk e => K.ub (e ▸ hu k hk)
  clear K ha ho
  unfold vsB plainC
  simp only
  go_enter Tryz.func211, Tryz.ntmps211
  go_wp2_with (go_at_call 233; refine (variable_any b fs stop (.map (some mf)) m n D _ tg _ K0.out.blk K0.out.vars ht).mono ?_)
  rintro e w1 ⟨rfl, hr, hx⟩
  have K1 := hide1 (K0.out.step hr hx)
  have O1 := hide1 (O0.out.trans (hx.mono (fun _ _ q => .inl q)))
  have S1 := hide1 (Box.only S0.out hx (by omega))
  have A1 := hide1 (ownsRow_only A0.out hx hub)
  have q1_0 := blk_cell S1.out 0
  have q1_1 := blk_cell S1.out 1
  have q1_2 := blk_cell S1.out 2
  have q1_3 := blk_cell S1.out 3
  have q1_4 := blk_cell S1.out 4
  have q1_5 := blk_cell S1.out 5
  have q1_6 := blk_cell S1.out 6
  have q1_7 := blk_cell S1.out 7
  simp only [List.getElem?_toArray, List.getElem?_cons_zero, List.getElem?_cons_succ] at q1_0 q1_1 q1_2 q1_3 q1_4 q1_5 q1_6 q1_7
  have z1 := O1.out.size
  clear hr hx
  go_wp2_with (go_at_call 233; refine (variable_any b fs stop (.map (some mf)) m n D _ sr _ K1.out.blk K1.out.vars hs).mono ?_)
  rintro e w2 ⟨rfl, hr, hx⟩
  have K2 := hide1 (K1.out.step hr hx)
  have O2 := hide1 (O1.out.trans (hx.mono (fun _ _ q => .inl q)))
  clear hr hx
  go_wp2
  go_end0
  exact ⟨rfl, ⟨n, by omega, K2.out⟩, O2.out⟩

set_option maxRecDepth 100000 in
set_option maxHeartbeats 2000000 in
theorem stmt_6 (b d dep : Nat) (U : Nat → Prop) (fs : Value) (fns : List TF) (stop : Int) (mf nf m n : Nat) (F D : DataW Unit) (c : CS) (s : VS) (av bv : Value) (w : World) (K : Ck b d U fs fns stop mf nf m n F D c w) (ho : VOk s) (_hn : n ≤ 4000) (ha : w.ownsRow 0 197 2 av s.args.length (nmsCells s.args)) (hu : ∀ k, av.ownBlock = some k → U k) (hbv : ∃ a2 l2 c2, bv = .slice a2 l2 c2) (hk : s.kind = 6) :
    Calls Tryz.prog 211 #[.pointer (some ⟨b, 0, none⟩), .agg (vsB s av bv), .int .i64 dep] w fun e w' => e = .returned (.tuple #[]) ∧ (∃ n', n' ≤ n + 1 ∧ Ck b d U fs fns stop mf nf m n' F (plainC F fns s (D, c)).1 (plainC F fns s (D, c)).2 w') ∧ Only (fun k => k = b ∨ k = m) w w' := by
  obtain ⟨kind, tg, sr, field, args⟩ := s
  simp only at hk ha
  subst hk
  obtain ⟨a1, l1, c1, rfl⟩ := owns_form ha
  have hl1 := own_len ha
  subst hl1
  obtain ⟨a2, l2, c2, rfl⟩ := hbv
  have lb := blk_lt K.blk
  have ht := ho.tg
  have htp := ho.tp
  have hs := ho.sr
  have har := ho.ar
  have hal := ho.al
  simp only at ht htp hs har hal
  have K0 := hide1 (K.quiet ((Only.refl (fun _ => False) w).alloc (.cells #[.int .i64 6, .string tg.text, .int .i64 tg.place, .string sr.text, .int .i64 sr.place, .int .i64 field, .slice a1 args.length c1, .slice a2 l2 c2] 318)))
  have S0 := hide1 (Box.new w #[.int .i64 6, .string tg.text, .int .i64 tg.place, .string sr.text, .int .i64 sr.place, .int .i64 field, .slice a1 args.length c1, .slice a2 l2 c2] 318)
  have O0 := hide1 ((Only.refl (fun k => k = b ∨ k = m) w).alloc (.cells #[.int .i64 6, .string tg.text, .int .i64 tg.place, .string sr.text, .int .i64 sr.place, .int .i64 field, .slice a1 args.length c1, .slice a2 l2 c2] 318))
  have A0 := hide1 (ownsRow_only ha ((Only.refl (fun _ => False) w).alloc (.cells #[.int .i64 6, .string tg.text, .int .i64 tg.place, .string sr.text, .int .i64 sr.place, .int .i64 field, .slice a1 args.length c1, .slice a2 l2 c2] 318)) (fun _ _ q => q))
  have hub : ∀ k, (Value.slice a1 args.length c1).ownBlock = some k → k ≠ b := fun k hk e => K.ub (e ▸ hu k hk)
  clear K ha ho
  unfold vsB plainC
  simp only
  go_enter Tryz.func211, Tryz.ntmps211
  go_wp2_with (go_at_call 233; refine (variable_any b fs stop (.map (some mf)) m n D _ tg _ K0.out.blk K0.out.vars ht).mono ?_)
  rintro e w1 ⟨rfl, hr, hx⟩
  have K1 := hide1 (K0.out.step hr hx)
  have O1 := hide1 (O0.out.trans (hx.mono (fun _ _ q => .inl q)))
  have S1 := hide1 (Box.only S0.out hx (by omega))
  have A1 := hide1 (ownsRow_only A0.out hx hub)
  have q1_0 := blk_cell S1.out 0
  have q1_1 := blk_cell S1.out 1
  have q1_2 := blk_cell S1.out 2
  have q1_3 := blk_cell S1.out 3
  have q1_4 := blk_cell S1.out 4
  have q1_5 := blk_cell S1.out 5
  have q1_6 := blk_cell S1.out 6
  have q1_7 := blk_cell S1.out 7
  simp only [List.getElem?_toArray, List.getElem?_cons_zero, List.getElem?_cons_succ] at q1_0 q1_1 q1_2 q1_3 q1_4 q1_5 q1_6 q1_7
  have z1 := O1.out.size
  clear hr hx
  go_wp2_with (go_at_call 233; refine (variable_any b fs stop (.map (some mf)) m n D _ sr _ K1.out.blk K1.out.vars hs).mono ?_)
  rintro e w2 ⟨rfl, hr, hx⟩
  have K2 := hide1 (K1.out.step hr hx)
  have O2 := hide1 (O1.out.trans (hx.mono (fun _ _ q => .inl q)))
  clear hr hx
  go_wp2
  go_end0
  exact ⟨rfl, ⟨n, by omega, K2.out⟩, O2.out⟩

set_option maxRecDepth 100000 in
set_option maxHeartbeats 2000000 in
theorem stmt_7 (b d dep : Nat) (U : Nat → Prop) (fs : Value) (fns : List TF) (stop : Int) (mf nf m n : Nat) (F D : DataW Unit) (c : CS) (s : VS) (av bv : Value) (w : World) (K : Ck b d U fs fns stop mf nf m n F D c w) (ho : VOk s) (_hn : n ≤ 4000) (ha : w.ownsRow 0 197 2 av s.args.length (nmsCells s.args)) (hu : ∀ k, av.ownBlock = some k → U k) (hbv : ∃ a2 l2 c2, bv = .slice a2 l2 c2) (hk : s.kind = 7) :
    Calls Tryz.prog 211 #[.pointer (some ⟨b, 0, none⟩), .agg (vsB s av bv), .int .i64 dep] w fun e w' => e = .returned (.tuple #[]) ∧ (∃ n', n' ≤ n + 1 ∧ Ck b d U fs fns stop mf nf m n' F (plainC F fns s (D, c)).1 (plainC F fns s (D, c)).2 w') ∧ Only (fun k => k = b ∨ k = m) w w' := by
  obtain ⟨kind, tg, sr, field, args⟩ := s
  simp only at hk ha
  subst hk
  obtain ⟨a1, l1, c1, rfl⟩ := owns_form ha
  have hl1 := own_len ha
  subst hl1
  obtain ⟨a2, l2, c2, rfl⟩ := hbv
  have lb := blk_lt K.blk
  have ht := ho.tg
  have htp := ho.tp
  have hs := ho.sr
  have har := ho.ar
  have hal := ho.al
  simp only at ht htp hs har hal
  have K0 := hide1 (K.quiet ((Only.refl (fun _ => False) w).alloc (.cells #[.int .i64 7, .string tg.text, .int .i64 tg.place, .string sr.text, .int .i64 sr.place, .int .i64 field, .slice a1 args.length c1, .slice a2 l2 c2] 318)))
  have S0 := hide1 (Box.new w #[.int .i64 7, .string tg.text, .int .i64 tg.place, .string sr.text, .int .i64 sr.place, .int .i64 field, .slice a1 args.length c1, .slice a2 l2 c2] 318)
  have O0 := hide1 ((Only.refl (fun k => k = b ∨ k = m) w).alloc (.cells #[.int .i64 7, .string tg.text, .int .i64 tg.place, .string sr.text, .int .i64 sr.place, .int .i64 field, .slice a1 args.length c1, .slice a2 l2 c2] 318))
  have A0 := hide1 (ownsRow_only ha ((Only.refl (fun _ => False) w).alloc (.cells #[.int .i64 7, .string tg.text, .int .i64 tg.place, .string sr.text, .int .i64 sr.place, .int .i64 field, .slice a1 args.length c1, .slice a2 l2 c2] 318)) (fun _ _ q => q))
  have hub : ∀ k, (Value.slice a1 args.length c1).ownBlock = some k → k ≠ b := fun k hk e => K.ub (e ▸ hu k hk)
  clear K ha ho
  unfold vsB plainC
  simp only
  go_enter Tryz.func211, Tryz.ntmps211
  go_wp2_with (go_at_call 233; refine (variable_any b fs stop (.map (some mf)) m n D _ tg _ K0.out.blk K0.out.vars ht).mono ?_)
  rintro e w1 ⟨rfl, hr, hx⟩
  have K1 := hide1 (K0.out.step hr hx)
  have O1 := hide1 (O0.out.trans (hx.mono (fun _ _ q => .inl q)))
  have S1 := hide1 (Box.only S0.out hx (by omega))
  have A1 := hide1 (ownsRow_only A0.out hx hub)
  have q1_0 := blk_cell S1.out 0
  have q1_1 := blk_cell S1.out 1
  have q1_2 := blk_cell S1.out 2
  have q1_3 := blk_cell S1.out 3
  have q1_4 := blk_cell S1.out 4
  have q1_5 := blk_cell S1.out 5
  have q1_6 := blk_cell S1.out 6
  have q1_7 := blk_cell S1.out 7
  simp only [List.getElem?_toArray, List.getElem?_cons_zero, List.getElem?_cons_succ] at q1_0 q1_1 q1_2 q1_3 q1_4 q1_5 q1_6 q1_7
  have z1 := O1.out.size
  clear hr hx
  go_wp2_with (go_at_call 235; refine (called_any b d U fs fns stop (.map (some m)) mf nf F _ sr args.length _ K1.out.blk K1.out.fmap K1.out.rows K1.out.fin hs K1.out.few).mono ?_)
  rintro e w2 ⟨rfl, hr, hx⟩
  have K2 := hide1 (K1.out.step hr hx)
  have O2 := hide1 (O1.out.trans (hx.mono (fun _ _ q => .inl q)))
  have S2 := hide1 (Box.only S1.out hx (by omega))
  have A2 := hide1 (ownsRow_only A1.out hx hub)
  have q2_0 := blk_cell S2.out 0
  have q2_1 := blk_cell S2.out 1
  have q2_2 := blk_cell S2.out 2
  have q2_3 := blk_cell S2.out 3
  have q2_4 := blk_cell S2.out 4
  have q2_5 := blk_cell S2.out 5
  have q2_6 := blk_cell S2.out 6
  have q2_7 := blk_cell S2.out 7
  simp only [List.getElem?_toArray, List.getElem?_cons_zero, List.getElem?_cons_succ] at q2_0 q2_1 q2_2 q2_3 q2_4 q2_5 q2_6 q2_7
  have z2 := O2.out.size
  clear hr hx
  go_wp2_with (go_at_call 236; refine (allVariables_any b fs stop (.map (some mf)) m n D _ args _ _ K2.out.blk K2.out.vars A2.out har hal).mono ?_)
  rintro e w3 ⟨rfl, hr, hx⟩
  have K3 := hide1 (K2.out.step hr hx)
  have O3 := hide1 (O2.out.trans (hx.mono (fun _ _ q => .inl q)))
  clear hr hx
  go_wp2
  go_end0
  exact ⟨rfl, ⟨n, by omega, K3.out⟩, O3.out⟩

set_option maxRecDepth 100000 in
set_option maxHeartbeats 2000000 in
theorem stmt_8 (b d dep : Nat) (U : Nat → Prop) (fs : Value) (fns : List TF) (stop : Int) (mf nf m n : Nat) (F D : DataW Unit) (c : CS) (s : VS) (av bv : Value) (w : World) (K : Ck b d U fs fns stop mf nf m n F D c w) (ho : VOk s) (_hn : n ≤ 4000) (ha : w.ownsRow 0 197 2 av s.args.length (nmsCells s.args)) (hu : ∀ k, av.ownBlock = some k → U k) (hbv : ∃ a2 l2 c2, bv = .slice a2 l2 c2) (hk : s.kind = 8) :
    Calls Tryz.prog 211 #[.pointer (some ⟨b, 0, none⟩), .agg (vsB s av bv), .int .i64 dep] w fun e w' => e = .returned (.tuple #[]) ∧ (∃ n', n' ≤ n + 1 ∧ Ck b d U fs fns stop mf nf m n' F (plainC F fns s (D, c)).1 (plainC F fns s (D, c)).2 w') ∧ Only (fun k => k = b ∨ k = m) w w' := by
  obtain ⟨kind, tg, sr, field, args⟩ := s
  simp only at hk ha
  subst hk
  obtain ⟨a1, l1, c1, rfl⟩ := owns_form ha
  have hl1 := own_len ha
  subst hl1
  obtain ⟨a2, l2, c2, rfl⟩ := hbv
  have lb := blk_lt K.blk
  have ht := ho.tg
  have htp := ho.tp
  have hs := ho.sr
  have har := ho.ar
  have hal := ho.al
  simp only at ht htp hs har hal
  have K0 := hide1 (K.quiet ((Only.refl (fun _ => False) w).alloc (.cells #[.int .i64 8, .string tg.text, .int .i64 tg.place, .string sr.text, .int .i64 sr.place, .int .i64 field, .slice a1 args.length c1, .slice a2 l2 c2] 318)))
  have S0 := hide1 (Box.new w #[.int .i64 8, .string tg.text, .int .i64 tg.place, .string sr.text, .int .i64 sr.place, .int .i64 field, .slice a1 args.length c1, .slice a2 l2 c2] 318)
  have O0 := hide1 ((Only.refl (fun k => k = b ∨ k = m) w).alloc (.cells #[.int .i64 8, .string tg.text, .int .i64 tg.place, .string sr.text, .int .i64 sr.place, .int .i64 field, .slice a1 args.length c1, .slice a2 l2 c2] 318))
  have A0 := hide1 (ownsRow_only ha ((Only.refl (fun _ => False) w).alloc (.cells #[.int .i64 8, .string tg.text, .int .i64 tg.place, .string sr.text, .int .i64 sr.place, .int .i64 field, .slice a1 args.length c1, .slice a2 l2 c2] 318)) (fun _ _ q => q))
  have hub : ∀ k, (Value.slice a1 args.length c1).ownBlock = some k → k ≠ b := fun k hk e => K.ub (e ▸ hu k hk)
  clear K ha ho
  unfold vsB plainC
  simp only
  go_enter Tryz.func211, Tryz.ntmps211
  go_wp2_with (go_at_call 233; refine (variable_any b fs stop (.map (some mf)) m n D _ tg _ K0.out.blk K0.out.vars ht).mono ?_)
  rintro e w1 ⟨rfl, hr, hx⟩
  have K1 := hide1 (K0.out.step hr hx)
  have O1 := hide1 (O0.out.trans (hx.mono (fun _ _ q => .inl q)))
  have S1 := hide1 (Box.only S0.out hx (by omega))
  have A1 := hide1 (ownsRow_only A0.out hx hub)
  have q1_0 := blk_cell S1.out 0
  have q1_1 := blk_cell S1.out 1
  have q1_2 := blk_cell S1.out 2
  have q1_3 := blk_cell S1.out 3
  have q1_4 := blk_cell S1.out 4
  have q1_5 := blk_cell S1.out 5
  have q1_6 := blk_cell S1.out 6
  have q1_7 := blk_cell S1.out 7
  simp only [List.getElem?_toArray, List.getElem?_cons_zero, List.getElem?_cons_succ] at q1_0 q1_1 q1_2 q1_3 q1_4 q1_5 q1_6 q1_7
  have z1 := O1.out.size
  clear hr hx
  go_wp2_with (go_at_call 233; refine (variable_any b fs stop (.map (some mf)) m n D _ sr _ K1.out.blk K1.out.vars hs).mono ?_)
  rintro e w2 ⟨rfl, hr, hx⟩
  have K2 := hide1 (K1.out.step hr hx)
  have O2 := hide1 (O1.out.trans (hx.mono (fun _ _ q => .inl q)))
  have S2 := hide1 (Box.only S1.out hx (by omega))
  have A2 := hide1 (ownsRow_only A1.out hx hub)
  have q2_0 := blk_cell S2.out 0
  have q2_1 := blk_cell S2.out 1
  have q2_2 := blk_cell S2.out 2
  have q2_3 := blk_cell S2.out 3
  have q2_4 := blk_cell S2.out 4
  have q2_5 := blk_cell S2.out 5
  have q2_6 := blk_cell S2.out 6
  have q2_7 := blk_cell S2.out 7
  simp only [List.getElem?_toArray, List.getElem?_cons_zero, List.getElem?_cons_succ] at q2_0 q2_1 q2_2 q2_3 q2_4 q2_5 q2_6 q2_7
  have z2 := O2.out.size
  clear hr hx
  go_wp2_with (go_at_call 236; refine (allVariables_any b fs stop (.map (some mf)) m n D _ args _ _ K2.out.blk K2.out.vars A2.out har hal).mono ?_)
  rintro e w3 ⟨rfl, hr, hx⟩
  have K3 := hide1 (K2.out.step hr hx)
  have O3 := hide1 (O2.out.trans (hx.mono (fun _ _ q => .inl q)))
  clear hr hx
  go_wp2
  go_end0
  exact ⟨rfl, ⟨n, by omega, K3.out⟩, O3.out⟩

set_option maxRecDepth 100000 in
set_option maxHeartbeats 2000000 in
theorem stmt_9 (b d dep : Nat) (U : Nat → Prop) (fs : Value) (fns : List TF) (stop : Int) (mf nf m n : Nat) (F D : DataW Unit) (c : CS) (s : VS) (av bv : Value) (w : World) (K : Ck b d U fs fns stop mf nf m n F D c w) (ho : VOk s) (_hn : n ≤ 4000) (ha : w.ownsRow 0 197 2 av s.args.length (nmsCells s.args)) (hu : ∀ k, av.ownBlock = some k → U k) (hbv : ∃ a2 l2 c2, bv = .slice a2 l2 c2) (hk : s.kind = 9) :
    Calls Tryz.prog 211 #[.pointer (some ⟨b, 0, none⟩), .agg (vsB s av bv), .int .i64 dep] w fun e w' => e = .returned (.tuple #[]) ∧ (∃ n', n' ≤ n + 1 ∧ Ck b d U fs fns stop mf nf m n' F (plainC F fns s (D, c)).1 (plainC F fns s (D, c)).2 w') ∧ Only (fun k => k = b ∨ k = m) w w' := by
  obtain ⟨kind, tg, sr, field, args⟩ := s
  simp only at hk ha
  subst hk
  obtain ⟨a1, l1, c1, rfl⟩ := owns_form ha
  have hl1 := own_len ha
  subst hl1
  obtain ⟨a2, l2, c2, rfl⟩ := hbv
  have lb := blk_lt K.blk
  have ht := ho.tg
  have htp := ho.tp
  have hs := ho.sr
  have har := ho.ar
  have hal := ho.al
  simp only at ht htp hs har hal
  have K0 := hide1 (K.quiet ((Only.refl (fun _ => False) w).alloc (.cells #[.int .i64 9, .string tg.text, .int .i64 tg.place, .string sr.text, .int .i64 sr.place, .int .i64 field, .slice a1 args.length c1, .slice a2 l2 c2] 318)))
  have S0 := hide1 (Box.new w #[.int .i64 9, .string tg.text, .int .i64 tg.place, .string sr.text, .int .i64 sr.place, .int .i64 field, .slice a1 args.length c1, .slice a2 l2 c2] 318)
  have O0 := hide1 ((Only.refl (fun k => k = b ∨ k = m) w).alloc (.cells #[.int .i64 9, .string tg.text, .int .i64 tg.place, .string sr.text, .int .i64 sr.place, .int .i64 field, .slice a1 args.length c1, .slice a2 l2 c2] 318))
  have A0 := hide1 (ownsRow_only ha ((Only.refl (fun _ => False) w).alloc (.cells #[.int .i64 9, .string tg.text, .int .i64 tg.place, .string sr.text, .int .i64 sr.place, .int .i64 field, .slice a1 args.length c1, .slice a2 l2 c2] 318)) (fun _ _ q => q))
  have hub : ∀ k, (Value.slice a1 args.length c1).ownBlock = some k → k ≠ b := fun k hk e => K.ub (e ▸ hu k hk)
  clear K ha ho
  unfold vsB plainC
  simp only
  go_enter Tryz.func211, Tryz.ntmps211
  go_wp2_with (go_at_call 233; refine (variable_any b fs stop (.map (some mf)) m n D _ tg _ K0.out.blk K0.out.vars ht).mono ?_)
  rintro e w1 ⟨rfl, hr, hx⟩
  have K1 := hide1 (K0.out.step hr hx)
  have O1 := hide1 (O0.out.trans (hx.mono (fun _ _ q => .inl q)))
  have S1 := hide1 (Box.only S0.out hx (by omega))
  have A1 := hide1 (ownsRow_only A0.out hx hub)
  have q1_0 := blk_cell S1.out 0
  have q1_1 := blk_cell S1.out 1
  have q1_2 := blk_cell S1.out 2
  have q1_3 := blk_cell S1.out 3
  have q1_4 := blk_cell S1.out 4
  have q1_5 := blk_cell S1.out 5
  have q1_6 := blk_cell S1.out 6
  have q1_7 := blk_cell S1.out 7
  simp only [List.getElem?_toArray, List.getElem?_cons_zero, List.getElem?_cons_succ] at q1_0 q1_1 q1_2 q1_3 q1_4 q1_5 q1_6 q1_7
  have z1 := O1.out.size
  clear hr hx
  go_wp2_with (go_at_call 233; refine (variable_any b fs stop (.map (some mf)) m n D _ sr _ K1.out.blk K1.out.vars hs).mono ?_)
  rintro e w2 ⟨rfl, hr, hx⟩
  have K2 := hide1 (K1.out.step hr hx)
  have O2 := hide1 (O1.out.trans (hx.mono (fun _ _ q => .inl q)))
  clear hr hx
  go_wp2
  go_end0
  exact ⟨rfl, ⟨n, by omega, K2.out⟩, O2.out⟩

set_option maxRecDepth 100000 in
set_option maxHeartbeats 2000000 in
theorem stmt_10 (b d dep : Nat) (U : Nat → Prop) (fs : Value) (fns : List TF) (stop : Int) (mf nf m n : Nat) (F D : DataW Unit) (c : CS) (s : VS) (av bv : Value) (w : World) (K : Ck b d U fs fns stop mf nf m n F D c w) (ho : VOk s) (_hn : n ≤ 4000) (ha : w.ownsRow 0 197 2 av s.args.length (nmsCells s.args)) (hu : ∀ k, av.ownBlock = some k → U k) (hbv : ∃ a2 l2 c2, bv = .slice a2 l2 c2) (hk : s.kind = 10) :
    Calls Tryz.prog 211 #[.pointer (some ⟨b, 0, none⟩), .agg (vsB s av bv), .int .i64 dep] w fun e w' => e = .returned (.tuple #[]) ∧ (∃ n', n' ≤ n + 1 ∧ Ck b d U fs fns stop mf nf m n' F (plainC F fns s (D, c)).1 (plainC F fns s (D, c)).2 w') ∧ Only (fun k => k = b ∨ k = m) w w' := by
  obtain ⟨kind, tg, sr, field, args⟩ := s
  simp only at hk ha
  subst hk
  obtain ⟨a1, l1, c1, rfl⟩ := owns_form ha
  have hl1 := own_len ha
  subst hl1
  obtain ⟨a2, l2, c2, rfl⟩ := hbv
  have lb := blk_lt K.blk
  have ht := ho.tg
  have htp := ho.tp
  have hs := ho.sr
  have har := ho.ar
  have hal := ho.al
  simp only at ht htp hs har hal
  have K0 := hide1 (K.quiet ((Only.refl (fun _ => False) w).alloc (.cells #[.int .i64 10, .string tg.text, .int .i64 tg.place, .string sr.text, .int .i64 sr.place, .int .i64 field, .slice a1 args.length c1, .slice a2 l2 c2] 318)))
  have S0 := hide1 (Box.new w #[.int .i64 10, .string tg.text, .int .i64 tg.place, .string sr.text, .int .i64 sr.place, .int .i64 field, .slice a1 args.length c1, .slice a2 l2 c2] 318)
  have O0 := hide1 ((Only.refl (fun k => k = b ∨ k = m) w).alloc (.cells #[.int .i64 10, .string tg.text, .int .i64 tg.place, .string sr.text, .int .i64 sr.place, .int .i64 field, .slice a1 args.length c1, .slice a2 l2 c2] 318))
  have A0 := hide1 (ownsRow_only ha ((Only.refl (fun _ => False) w).alloc (.cells #[.int .i64 10, .string tg.text, .int .i64 tg.place, .string sr.text, .int .i64 sr.place, .int .i64 field, .slice a1 args.length c1, .slice a2 l2 c2] 318)) (fun _ _ q => q))
  have hub : ∀ k, (Value.slice a1 args.length c1).ownBlock = some k → k ≠ b := fun k hk e => K.ub (e ▸ hu k hk)
  clear K ha ho
  unfold vsB plainC
  simp only
  go_enter Tryz.func211, Tryz.ntmps211
  go_wp2_with (go_at_call 233; refine (variable_any b fs stop (.map (some mf)) m n D _ sr _ K0.out.blk K0.out.vars hs).mono ?_)
  rintro e w1 ⟨rfl, hr, hx⟩
  have K1 := hide1 (K0.out.step hr hx)
  have O1 := hide1 (O0.out.trans (hx.mono (fun _ _ q => .inl q)))
  clear hr hx
  go_wp2
  go_end0
  exact ⟨rfl, ⟨n, by omega, K1.out⟩, O1.out⟩

end Go.Proofs.YtgbmakpdjdigmaaGreatDoor

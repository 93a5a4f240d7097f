/- CkG CkH CkI CkJ: told at each. -/
import Derived.Test.YtgbmakpdjdigmaaGreatDoorG14

/- The program's checker: block, out of statement's contract at the depth below. -/
namespace Go.Proofs.YtgbmakpdjdigmaaGreatDoor
open Go.RowKit Go.Maps

/-- What a statement does, by fuel. -/
def ckS (F : DataW Unit) (fns : List TF) : Nat → Nat → TS → DataW Unit × CS → DataW Unit × CS
  | 0, _, _, x => x
  | d + 1, dep, .mk s bl, x =>
    if s.kind = 11 ∨ s.kind = 12 then bl.foldl (fun x q => q.2.foldl (fun x t => ckS F fns d (dep + 1) t x) (x.1, if 6 < dep + 1 then repC 4 q.1 x.2 else x.2)) x
    else plainC F fns s x
def ckB (F : DataW Unit) (fns : List TF) (d dep : Nat) (q : Nat × List TS) (x : DataW Unit × CS) : DataW Unit × CS :=
  q.2.foldl (fun x t => ckS F fns d dep t x) (x.1, if 6 < dep then repC 4 q.1 x.2 else x.2)
def cntS : Nat → TS → Nat
  | 0, _ => 0
  | d + 1, .mk _ bl => 1 + (bl.map (fun q => (q.2.map (cntS d)).sum)).sum
def TOk : Nat → TS → Prop
  | 0, _ => False
  | d + 1, .mk s bl => VOk s ∧ s.kind ≤ 12 ∧ bl.length ≤ 4000 ∧ ∀ q, q ∈ bl → q.2.length ≤ 4000 ∧ ∀ t, t ∈ q.2 → TOk d t
/-- The contract of statement at trees of depth d. -/
def CStOk (d : Nat) : Prop := ∀ (b d0 dep : Nat) (U : Nat → Prop) (fs : Value) (fns : List TF) (stop : Int) (mf nf m n : Nat) (F D : DataW Unit) (c : CS) (t : TS) (cs : Array Value) (w : World),
  Ck b d0 U fs fns stop mf nf m n F D c w → TRep d U w t cs.toList → TOk d t → n + cntS d t ≤ 4000 → dep + d ≤ 4001 →
  Calls Tryz.prog 211 #[.pointer (some ⟨b, 0, none⟩), .agg cs, .int .i64 dep] w fun e w' => e = .returned (.tuple #[]) ∧ (∃ n', n' ≤ n + cntS d t ∧ Ck b d0 U fs fns stop mf nf m n' F (ckS F fns d dep t (D, c)).1 (ckS F fns d dep t (D, c)).2 w') ∧ Only (fun k => k = b ∨ k = m) w w'
theorem TRow.get {d : Nat} {U : Nat → Prop} {w : World} {g l c : Nat} {sts : List TS} (h : TRow d U w (.slice (some ⟨g, 0, none⟩) l c) sts) {j : Nat} (hj : j < sts.length) :
    ∃ (s : VS) (a1 : Option Addr) (l1 c1 : Nat) (a2 : Option Addr) (l2 c2 : Nat), (∀ i, i < 8 → w.cell? ⟨g, j * 8 + i, none⟩ = (vsB s (.slice a1 l1 c1) (.slice a2 l2 c2))[i]?) ∧ TRep d U w sts[j] (vsB s (.slice a1 l1 c1) (.slice a2 l2 c2)).toList := by
  obtain ⟨css, h1, h2, h3, h4⟩ := h
  have hvl := own_len h1
  subst hvl
  have hj' : j < css.length := by omega
  have form : ∀ i (hi : i < sts.length) (hi' : i < css.length), ∃ (s : VS) (a1 : Option Addr) (l1 c1 : Nat) (a2 : Option Addr) (l2 c2 : Nat), css[i] = (vsB s (.slice a1 l1 c1) (.slice a2 l2 c2)).toList := by
    intro i hi hi'
    have hr := h4 i hi hi'
    generalize css[i] = cs at hr
    generalize sts[i] = t at hr
    cases d with
    | zero => exact hr.elim
    | succ d =>
      obtain ⟨s, bl⟩ := t
      obtain ⟨av, bv, bcs, e, r1, _, r2, _⟩ := hr
      obtain ⟨a1, l1, c1, rfl⟩ := owns_form r1
      obtain ⟨a2, l2, c2, rfl⟩ := owns_form r2
      exact ⟨s, a1, l1, c1, a2, l2, c2, e⟩
  have hs : ∀ x, x ∈ css → x.length = 8 := by
    intro x hx
    obtain ⟨i, hi, rfl⟩ := List.mem_iff_getElem.1 hx
    obtain ⟨_, _, _, _, _, _, _, e'⟩ := form i (by omega) hi
    rw [e']; rfl
  obtain ⟨s, a1, l1, c1, a2, l2, c2, e⟩ := form j hj hj'
  refine ⟨s, a1, l1, c1, a2, l2, c2, fun i hi => ?_, by rw [← e]; exact h4 j hj hj'⟩
  have hc := h1.cellAt (j * 8 + i) (by omega)
  rw [hc, flat_at hs hj' hi, e]
  simp

theorem foldS_step {A B : Type} (f : B → A → B) (l : List A) (k : Nat) (h : k < l.length) (x : B) : (l.drop k).foldl f x = (l.drop (k + 1)).foldl f (f x l[k]) := by
  rw [List.drop_eq_getElem_cons h]; rfl
theorem sum_step (f : TS → Nat) (l : List TS) (k : Nat) (h : k < l.length) : ((l.drop k).map f).sum = f l[k] + ((l.drop (k + 1)).map f).sum := by
  rw [List.drop_eq_getElem_cons h, List.map_cons, List.sum_cons]

set_option maxRecDepth 100000 in
set_option maxHeartbeats 2000000 in
theorem cblock_any (d : Nat) (hS : CStOk d) (b d0 dep p : Nat) (U : Nat → Prop) (fs : Value) (fns : List TF) (stop : Int) (mf nf m n : Nat) (F D : DataW Unit) (c : CS) (sts : List TS) (sv : Value) (w : World)
    (K : Ck b d0 U fs fns stop mf nf m n F D c w) (hR : TRow d U w sv sts) (hO : ∀ t, t ∈ sts → TOk d t) (hn : n + (sts.map (cntS d)).sum ≤ 4000) (hd : dep + d ≤ 4001) (hl : sts.length ≤ 4000) :
    Calls Tryz.prog 176 #[.pointer (some ⟨b, 0, none⟩), .agg #[.int .i64 p, sv], .int .i64 dep] w fun e w' => e = .returned (.tuple #[]) ∧ (∃ n', n' ≤ n + (sts.map (cntS d)).sum ∧ Ck b d0 U fs fns stop mf nf m n' F (ckB F fns d dep (p, sts) (D, c)).1 (ckB F fns d dep (p, sts) (D, c)).2 w') ∧ Only (fun k => k = b ∨ k = m) w w' := by
  have hfl := hR
  obtain ⟨css, p1, _⟩ := hfl
  obtain ⟨va, vl, vc, rfl⟩ := owns_form p1
  have hvl := own_len p1
  subst hvl
  have lb := blk_lt K.blk
  have K0 := hide1 (K.quiet ((Only.refl (fun _ => False) w).alloc (.cells #[.int .i64 p, .slice va sts.length vc] 201)))
  have S0 := hide1 (Box.new w #[.int .i64 p, .slice va sts.length vc] 201)
  have O0 := hide1 ((Only.refl (fun k => k = b ∨ k = m) w).alloc (.cells #[.int .i64 p, .slice va sts.length vc] 201))
  have R0 := hide1 hR
  have HS := hide1 hS
  clear K hR p1 hS
  by_cases h6 : 6 < dep
  · have h6' : (6 : Int) < (dep : Int) := by omega
    obtain ⟨c1, hc1⟩ : ∃ c1, repC 4 p c = c1 := ⟨_, rfl⟩
    generalize hV : ckB F fns d dep (p, sts) (D, c) = V
    have HV : Hid ((sts.drop 0).foldl (fun x t => ckS F fns d dep t x) (D, c1) = V) := by rw [← hV, ckB, if_pos h6, hc1]; rfl
    have C1 := hide1 hc1
    clear hV hc1 h6
    go_enter Tryz.func176, Tryz.ntmps176
    go_wp2_with (go_at_call 122; refine (report_any b 4 p fs stop (.map (some mf)) (.map (some m)) c _ K0.out.blk).mono ?_)
    rw [C1.out]
    rintro e W ⟨rfl, kw, ow⟩
    have K1 := hide1 (K0.out.step kw ow)
    have O1 := hide1 (O0.out.trans (ow.mono (fun _ _ q => .inl q)))
    have s0 := blk_cell (Box.only S0.out ow (by omega)) 1
    simp only [List.getElem?_toArray, List.getElem?_cons_zero, List.getElem?_cons_succ] at s0
    have z1 := O1.out.size
    clear kw ow K0 O0 S0
    go_wp2
    go_loopw [17] (fun i wr => ∃ (k n1 : Nat) (D1 : DataW Unit) (e1 : CS), k ≤ sts.length ∧ i = .int .i64 k ∧ n1 + ((sts.drop k).map (cntS d)).sum ≤ n + (sts.map (cntS d)).sum ∧ Hid (Ck b d0 U fs fns stop mf nf m n1 F D1 e1 wr) ∧ Hid (Only (fun k => k = b ∨ k = m) w wr) ∧ Hid ((sts.drop k).foldl (fun x t => ckS F fns d dep t x) (D1, e1) = V)) (fun i _ => sts.length - (intOf i).toNat)
    case atStart => exact ⟨0, n, D, c1, by omega, rfl, by simp, K1, O1, HV⟩
    case round =>
      obtain ⟨k, n1, D1, e1, hkl, rfl, hn1, k1, o1, hv1⟩ := hrel
      clear HV K1 O1
      by_cases hlt : k < sts.length
      · have hR1 : TRow d U wr (.slice va sts.length vc) sts := TRow.only R0.out o1.out (fun _ hk q => q.elim (fun e => k1.out.ub (e ▸ hk)) (fun e => k1.out.um (e ▸ hk)))
        have hfl := hR1
        obtain ⟨css1, p1, _⟩ := hfl
        obtain ⟨g, rfl⟩ := own_some p1 (by omega)
        have lg := (p1.lt g rfl).2
        obtain ⟨s, a1, l1, c1, a2, l2, c2, hcell, hrep⟩ := hR1.get hlt
        have f0 := hcell 0 (by omega)
        have f1 := hcell 1 (by omega)
        have f2 := hcell 2 (by omega)
        have f3 := hcell 3 (by omega)
        have f4 := hcell 4 (by omega)
        have f5 := hcell 5 (by omega)
        have f6 := hcell 6 (by omega)
        have f7 := hcell 7 (by omega)
        simp only [vsB, List.getElem?_toArray, List.getElem?_cons_zero, List.getElem?_cons_succ, Nat.add_zero] at f0 f1 f2 f3 f4 f5 f6 f7
        have hst := hide1 (foldS_step (fun x t => ckS F fns d dep t x) sts k hlt (D1, e1))
        have hsum := sum_step (cntS d) sts k hlt
        have hok := hide1 (hO sts[k] (List.getElem_mem _))
        have HRep := hide1 hrep
        clear p1 hcell hR1 hrep
        generalize sts[k] = t at *
        have l0 := o1.out.size
        have AL := hide1 ((Only.refl (fun _ => False) wr).alloc (.cells #[.int .i64 s.kind, .string s.tg.text, .int .i64 s.tg.place, .string s.sr.text, .int .i64 s.sr.place, .int .i64 s.field, .slice a1 l1 c1, .slice a2 l2 c2] 318))
        go_wp2_with (go_at_call 211; refine (HS.out b d0 dep U fs fns stop mf nf m n1 F D1 e1 t #[.int .i64 s.kind, .string s.tg.text, .int .i64 s.tg.place, .string s.sr.text, .int .i64 s.sr.place, .int .i64 s.field, .slice a1 l1 c1, .slice a2 l2 c2] _ (k1.out.quiet AL.out) (TRep.only HRep.out AL.out (fun _ _ q => q)) hok.out (by omega) hd).mono ?_; rintro e w2 ⟨rfl, ⟨n2, hn2, k2⟩, o2⟩)
        go_round
        case rel => exact ⟨k + 1, n2, _, _, by omega, by go_num, by omega, hide1 k2, hide1 (o1.out.trans ((AL.out.mono (fun _ _ q => q.elim)).trans o2)), hide1 (hst.out.symm.trans hv1.out)⟩
        case measure => simp [intOf]; omega
      · have e : k = sts.length := by omega
        subst e
        have hv2 : (D1, e1) = V := by have := hv1.out; simpa using this
        subst hv2
        go_wp2
        go_end0
        simp at hn1
        exact ⟨rfl, ⟨n1, by omega, k1.out⟩, o1.out⟩
  · have h6' : ¬ (6 : Int) < (dep : Int) := by omega
    obtain ⟨c1, hc1⟩ : ∃ c1, c = c1 := ⟨_, rfl⟩
    generalize hV : ckB F fns d dep (p, sts) (D, c) = V
    have HV : Hid ((sts.drop 0).foldl (fun x t => ckS F fns d dep t x) (D, c1) = V) := by rw [← hV, ckB, if_neg h6, hc1]; rfl
    subst hc1
    clear hV h6
    go_enter Tryz.func176, Tryz.ntmps176
    go_wp2
    have K1 := K0
    have O1 := O0
    clear K0 O0 S0
    go_loopw [17] (fun i wr => ∃ (k n1 : Nat) (D1 : DataW Unit) (e1 : CS), k ≤ sts.length ∧ i = .int .i64 k ∧ n1 + ((sts.drop k).map (cntS d)).sum ≤ n + (sts.map (cntS d)).sum ∧ Hid (Ck b d0 U fs fns stop mf nf m n1 F D1 e1 wr) ∧ Hid (Only (fun k => k = b ∨ k = m) w wr) ∧ Hid ((sts.drop k).foldl (fun x t => ckS F fns d dep t x) (D1, e1) = V)) (fun i _ => sts.length - (intOf i).toNat)
    case atStart => exact ⟨0, n, D, c, by omega, rfl, by simp, K1, O1, HV⟩
    case round =>
      obtain ⟨k, n1, D1, e1, hkl, rfl, hn1, k1, o1, hv1⟩ := hrel
      clear HV K1 O1
      by_cases hlt : k < sts.length
      · have hR1 : TRow d U wr (.slice va sts.length vc) sts := TRow.only R0.out o1.out (fun _ hk q => q.elim (fun e => k1.out.ub (e ▸ hk)) (fun e => k1.out.um (e ▸ hk)))
        have hfl := hR1
        obtain ⟨css1, p1, _⟩ := hfl
        obtain ⟨g, rfl⟩ := own_some p1 (by omega)
        have lg := (p1.lt g rfl).2
        obtain ⟨s, a1, l1, c1, a2, l2, c2, hcell, hrep⟩ := hR1.get hlt
        have f0 := hcell 0 (by omega)
        have f1 := hcell 1 (by omega)
        have f2 := hcell 2 (by omega)
        have f3 := hcell 3 (by omega)
        have f4 := hcell 4 (by omega)
        have f5 := hcell 5 (by omega)
        have f6 := hcell 6 (by omega)
        have f7 := hcell 7 (by omega)
        simp only [vsB, List.getElem?_toArray, List.getElem?_cons_zero, List.getElem?_cons_succ, Nat.add_zero] at f0 f1 f2 f3 f4 f5 f6 f7
        have hst := hide1 (foldS_step (fun x t => ckS F fns d dep t x) sts k hlt (D1, e1))
        have hsum := sum_step (cntS d) sts k hlt
        have hok := hide1 (hO sts[k] (List.getElem_mem _))
        have HRep := hide1 hrep
        clear p1 hcell hR1 hrep
        generalize sts[k] = t at *
        have l0 := o1.out.size
        have AL := hide1 ((Only.refl (fun _ => False) wr).alloc (.cells #[.int .i64 s.kind, .string s.tg.text, .int .i64 s.tg.place, .string s.sr.text, .int .i64 s.sr.place, .int .i64 s.field, .slice a1 l1 c1, .slice a2 l2 c2] 318))
        go_wp2_with (go_at_call 211; refine (HS.out b d0 dep U fs fns stop mf nf m n1 F D1 e1 t #[.int .i64 s.kind, .string s.tg.text, .int .i64 s.tg.place, .string s.sr.text, .int .i64 s.sr.place, .int .i64 s.field, .slice a1 l1 c1, .slice a2 l2 c2] _ (k1.out.quiet AL.out) (TRep.only HRep.out AL.out (fun _ _ q => q)) hok.out (by omega) hd).mono ?_; rintro e w2 ⟨rfl, ⟨n2, hn2, k2⟩, o2⟩)
        go_round
        case rel => exact ⟨k + 1, n2, _, _, by omega, by go_num, by omega, hide1 k2, hide1 (o1.out.trans ((AL.out.mono (fun _ _ q => q.elim)).trans o2)), hide1 (hst.out.symm.trans hv1.out)⟩
        case measure => simp [intOf]; omega
      · have e : k = sts.length := by omega
        subst e
        have hv2 : (D1, e1) = V := by have := hv1.out; simpa using this
        subst hv2
        go_wp2
        go_end0
        simp at hn1
        exact ⟨rfl, ⟨n1, by omega, k1.out⟩, o1.out⟩

end Go.Proofs.YtgbmakpdjdigmaaGreatDoor

/- The program's checker: statement with blocks; statement by induction on the depth. -/
namespace Go.Proofs.YtgbmakpdjdigmaaGreatDoor
open Go.RowKit Go.Maps

def cntB (d : Nat) (q : Nat × List TS) : Nat := (q.2.map (cntS d)).sum
theorem sumB_step (f : Nat × List TS → Nat) (l : List (Nat × List TS)) (k : Nat) (h : k < l.length) : ((l.drop k).map f).sum = f l[k] + ((l.drop (k + 1)).map f).sum := by
  rw [List.drop_eq_getElem_cons h, List.map_cons, List.sum_cons]

set_option maxRecDepth 100000 in
set_option maxHeartbeats 2000000 in
theorem cstmt_blocks (d : Nat) (hS : CStOk d) (b d0 dep : Nat) (U : Nat → Prop) (fs : Value) (fns : List TF) (stop : Int) (mf nf m n : Nat) (F D : DataW Unit) (c : CS) (s : VS) (bl : List (Nat × List TS)) (cs : Array Value) (w : World)
    (K : Ck b d0 U fs fns stop mf nf m n F D c w) (hT : TRep (d + 1) U w (.mk s bl) cs.toList) (hO : TOk (d + 1) (.mk s bl)) (hn : n + cntS (d + 1) (.mk s bl) ≤ 4000) (hd : dep + (d + 1) ≤ 4001) (hk : s.kind = 11 ∨ s.kind = 12) :
    Calls Tryz.prog 211 #[.pointer (some ⟨b, 0, none⟩), .agg cs, .int .i64 dep] w fun e w' => e = .returned (.tuple #[]) ∧ (∃ n', n' ≤ n + cntS (d + 1) (.mk s bl) ∧ Ck b d0 U fs fns stop mf nf m n' F (bl.foldl (fun x q => ckB F fns d (dep + 1) q x) (D, c)).1 (bl.foldl (fun x q => ckB F fns d (dep + 1) q x) (D, c)).2 w') ∧ Only (fun k => k = b ∨ k = m) w w' := by
  obtain ⟨av, bv, bcs, hcs, ha, hau, hbr, hbl, hbu, hin⟩ := hT
  obtain ⟨ho, _, hol, hoq⟩ := hO
  obtain ⟨a1, l1, c1, rfl⟩ := owns_form ha
  obtain ⟨a2, l2, c2, rfl⟩ := owns_form hbr
  have hvl := own_len hbr
  subst hvl
  have hcs' : cs = vsB s (.slice a1 l1 c1) (.slice a2 bl.length c2) := Array.ext' hcs
  subst hcs'
  have hcn : cntS (d + 1) (.mk s bl) = 1 + (bl.map (cntB d)).sum := rfl
  rw [hcn] at hn ⊢
  have lb := blk_lt K.blk
  have hkk : ∃ kd : Nat, s.kind = kd := ⟨_, rfl⟩
  generalize hV : bl.foldl (fun x q => ckB F fns d (dep + 1) q x) (D, c) = V
  have HV : Hid ((bl.drop 0).foldl (fun x q => ckB F fns d (dep + 1) q x) (D, c) = V) := hV
  have HS := hide1 hS
  have HI := hide1 hin
  have HB := hide1 hbr
  clear hV hS hin hcs ha hau hcn hkk
  rcases hk with hk | hk
  · have AL0 := hide1 ((Only.refl (fun _ => False) w).alloc (.cells #[.int .i64 11, .string s.tg.text, .int .i64 s.tg.place, .string s.sr.text, .int .i64 s.sr.place, .int .i64 s.field, .slice a1 l1 c1, .slice a2 bl.length c2] 318))
    unfold vsB
    rw [hk, show ((11 : Nat) : Int) = 11 from rfl]
    go_enter Tryz.func211, Tryz.ntmps211
    go_wp2
    go_loopw [89] (fun i wr => ∃ (k n1 : Nat) (D1 : DataW Unit) (e1 : CS), k ≤ bl.length ∧ i = .int .i64 k ∧ n1 + ((bl.drop k).map (cntB d)).sum ≤ n + (1 + (bl.map (cntB d)).sum) ∧ Hid (Ck b d0 U fs fns stop mf nf m n1 F D1 e1 wr) ∧ Hid (Only (fun k => k = b ∨ k = m) w wr) ∧ Hid ((bl.drop k).foldl (fun x q => ckB F fns d (dep + 1) q x) (D1, e1) = V)) (fun i _ => bl.length - (intOf i).toNat)
    case atStart => exact ⟨0, n, D, c, by omega, rfl, by simp, hide1 (K.quiet AL0.out), hide1 (AL0.out.mono (fun _ _ q => q.elim)), HV⟩
    case round =>
      obtain ⟨k, n1, D1, e1, hkl, rfl, hn1, k1, o1, hv1⟩ := hrel
      clear HV AL0
      by_cases hlt : k < bl.length
      · have hav : ∀ j, U j → ¬ (j = b ∨ j = m) := fun _ hj q => q.elim (fun e => K.ub (e ▸ hj)) (fun e => K.um (e ▸ hj))
        have hB1 := ownsRow_only HB.out o1.out (fun j hj => hav j (hbu j hj))
        obtain ⟨sv, css, e, r, len, u, rep⟩ := HI.out k hlt (by omega)
        have hR := hide1 (TRow.only (d := d) (U := U) (w := w) (sv := sv) (sts := bl[k].2) ⟨css, r, len, u, rep⟩ o1.out hav)
        obtain ⟨sa, sl, sc, rfl⟩ := owns_form r
        obtain ⟨g, rfl⟩ := own_some hB1 (by omega)
        have lg := (hB1.lt g rfl).2
        have hs2 : ∀ x, x ∈ bcs → x.length = 2 := by
          intro x hx
          obtain ⟨i, hi, rfl⟩ := List.mem_iff_getElem.1 hx
          obtain ⟨_, _, e', _⟩ := HI.out i (by omega) hi
          rw [e']; rfl
        have f0 := hB1.cellAt (k * 2) (by omega)
        have f1 := hB1.cellAt (k * 2 + 1) (by omega)
        have e0 := flat_at hs2 (j := k) (i := 0) (by omega) (by omega)
        have e1' := flat_at hs2 (j := k) (i := 1) (by omega) (by omega)
        rw [Nat.add_zero] at e0
        rw [e0, e] at f0
        rw [e1', e] at f1
        simp only [List.getElem?_cons_zero, List.getElem?_cons_succ] at f0 f1
        have hst := hide1 (foldS_step (fun x q => ckB F fns d (dep + 1) q x) bl k hlt (D1, e1))
        have hsum := sumB_step (cntB d) bl k hlt
        have hok := hide1 (hoq bl[k] (List.getElem_mem _))
        clear hB1 r rep u e e0 e1' hs2 len
        generalize bl[k] = t at *
        have l0 := o1.out.size
        have AL := hide1 ((Only.refl (fun _ => False) wr).alloc (.cells #[.int .i64 t.1, .slice sa sl sc] 201))
        have hdp : ((dep : Int) + 1) = ((dep + 1 : Nat) : Int) := by omega
        have hct : cntB d t = (t.2.map (cntS d)).sum := rfl
        have HD := hide1 hdp
        clear hdp
        go_wp2_with (go_at_call 176; rw [HD.out]; refine (cblock_any d HS.out b d0 (dep + 1) t.1 U fs fns stop mf nf m n1 F D1 e1 t.2 (.slice sa sl sc) _ (k1.out.quiet AL.out) (TRow.only hR.out AL.out (fun _ _ q => q)) hok.out.2 (by omega) (by omega) hok.out.1).mono ?_; rintro e w2 ⟨rfl, ⟨n2, hn2, k2⟩, o2⟩)
        go_round
        case rel => exact ⟨k + 1, n2, _, _, by omega, by go_num, by omega, hide1 k2, hide1 (o1.out.trans ((AL.out.mono (fun _ _ q => q.elim)).trans o2)), hide1 (hst.out.symm.trans hv1.out)⟩
        case measure => simp [intOf]; omega
      · have e : k = bl.length := by omega
        subst e
        have hv2 : (D1, e1) = V := by have := hv1.out; simpa using this
        subst hv2
        go_wp2
        go_end0
        simp at hn1
        exact ⟨rfl, ⟨n1, by omega, k1.out⟩, o1.out⟩
  · have AL0 := hide1 ((Only.refl (fun _ => False) w).alloc (.cells #[.int .i64 12, .string s.tg.text, .int .i64 s.tg.place, .string s.sr.text, .int .i64 s.sr.place, .int .i64 s.field, .slice a1 l1 c1, .slice a2 bl.length c2] 318))
    unfold vsB
    rw [hk, show ((12 : Nat) : Int) = 12 from rfl]
    go_enter Tryz.func211, Tryz.ntmps211
    go_wp2
    go_loopw [89] (fun i wr => ∃ (k n1 : Nat) (D1 : DataW Unit) (e1 : CS), k ≤ bl.length ∧ i = .int .i64 k ∧ n1 + ((bl.drop k).map (cntB d)).sum ≤ n + (1 + (bl.map (cntB d)).sum) ∧ Hid (Ck b d0 U fs fns stop mf nf m n1 F D1 e1 wr) ∧ Hid (Only (fun k => k = b ∨ k = m) w wr) ∧ Hid ((bl.drop k).foldl (fun x q => ckB F fns d (dep + 1) q x) (D1, e1) = V)) (fun i _ => bl.length - (intOf i).toNat)
    case atStart => exact ⟨0, n, D, c, by omega, rfl, by simp, hide1 (K.quiet AL0.out), hide1 (AL0.out.mono (fun _ _ q => q.elim)), HV⟩
    case round =>
      obtain ⟨k, n1, D1, e1, hkl, rfl, hn1, k1, o1, hv1⟩ := hrel
      clear HV AL0
      by_cases hlt : k < bl.length
      · have hav : ∀ j, U j → ¬ (j = b ∨ j = m) := fun _ hj q => q.elim (fun e => K.ub (e ▸ hj)) (fun e => K.um (e ▸ hj))
        have hB1 := ownsRow_only HB.out o1.out (fun j hj => hav j (hbu j hj))
        obtain ⟨sv, css, e, r, len, u, rep⟩ := HI.out k hlt (by omega)
        have hR := hide1 (TRow.only (d := d) (U := U) (w := w) (sv := sv) (sts := bl[k].2) ⟨css, r, len, u, rep⟩ o1.out hav)
        obtain ⟨sa, sl, sc, rfl⟩ := owns_form r
        obtain ⟨g, rfl⟩ := own_some hB1 (by omega)
        have lg := (hB1.lt g rfl).2
        have hs2 : ∀ x, x ∈ bcs → x.length = 2 := by
          intro x hx
          obtain ⟨i, hi, rfl⟩ := List.mem_iff_getElem.1 hx
          obtain ⟨_, _, e', _⟩ := HI.out i (by omega) hi
          rw [e']; rfl
        have f0 := hB1.cellAt (k * 2) (by omega)
        have f1 := hB1.cellAt (k * 2 + 1) (by omega)
        have e0 := flat_at hs2 (j := k) (i := 0) (by omega) (by omega)
        have e1' := flat_at hs2 (j := k) (i := 1) (by omega) (by omega)
        rw [Nat.add_zero] at e0
        rw [e0, e] at f0
        rw [e1', e] at f1
        simp only [List.getElem?_cons_zero, List.getElem?_cons_succ] at f0 f1
        have hst := hide1 (foldS_step (fun x q => ckB F fns d (dep + 1) q x) bl k hlt (D1, e1))
        have hsum := sumB_step (cntB d) bl k hlt
        have hok := hide1 (hoq bl[k] (List.getElem_mem _))
        clear hB1 r rep u e e0 e1' hs2 len
        generalize bl[k] = t at *
        have l0 := o1.out.size
        have AL := hide1 ((Only.refl (fun _ => False) wr).alloc (.cells #[.int .i64 t.1, .slice sa sl sc] 201))
        have hdp : ((dep : Int) + 1) = ((dep + 1 : Nat) : Int) := by omega
        have hct : cntB d t = (t.2.map (cntS d)).sum := rfl
        have HD := hide1 hdp
        clear hdp
        go_wp2_with (go_at_call 176; rw [HD.out]; refine (cblock_any d HS.out b d0 (dep + 1) t.1 U fs fns stop mf nf m n1 F D1 e1 t.2 (.slice sa sl sc) _ (k1.out.quiet AL.out) (TRow.only hR.out AL.out (fun _ _ q => q)) hok.out.2 (by omega) (by omega) hok.out.1).mono ?_; rintro e w2 ⟨rfl, ⟨n2, hn2, k2⟩, o2⟩)
        go_round
        case rel => exact ⟨k + 1, n2, _, _, by omega, by go_num, by omega, hide1 k2, hide1 (o1.out.trans ((AL.out.mono (fun _ _ q => q.elim)).trans o2)), hide1 (hst.out.symm.trans hv1.out)⟩
        case measure => simp [intOf]; omega
      · have e : k = bl.length := by omega
        subst e
        have hv2 : (D1, e1) = V := by have := hv1.out; simpa using this
        subst hv2
        go_wp2
        go_end0
        simp at hn1
        exact ⟨rfl, ⟨n1, by omega, k1.out⟩, o1.out⟩

end Go.Proofs.YtgbmakpdjdigmaaGreatDoor

/- The program's checker: statement at every tree, by induction on the depth. -/
namespace Go.Proofs.YtgbmakpdjdigmaaGreatDoor
open Go.RowKit Go.Maps

theorem stmt_plain (b d dep : Nat) (U : Nat → Prop) (fs : Value) (fns : List TF) (stop : Int) (mf nf m n : Nat) (F D : DataW Unit) (c : CS) (s : VS) (av bv : Value) (w : World) (K : Ck b d U fs fns stop mf nf m n F D c w) (ho : VOk s) (hn : n ≤ 4000) (ha : w.ownsRow 0 197 2 av s.args.length (nmsCells s.args)) (hu : ∀ k, av.ownBlock = some k → U k) (hbv : ∃ a2 l2 c2, bv = .slice a2 l2 c2) (hk : s.kind ≤ 10) :
    Calls Tryz.prog 211 #[.pointer (some ⟨b, 0, none⟩), .agg (vsB s av bv), .int .i64 dep] w fun e w' => e = .returned (.tuple #[]) ∧ (∃ n', n' ≤ n + 1 ∧ Ck b d U fs fns stop mf nf m n' F (plainC F fns s (D, c)).1 (plainC F fns s (D, c)).2 w') ∧ Only (fun k => k = b ∨ k = m) w w' := by
  have hk' : s.kind = 0 ∨ s.kind = 1 ∨ s.kind = 2 ∨ s.kind = 3 ∨ s.kind = 4 ∨ s.kind = 5 ∨ s.kind = 6 ∨ s.kind = 7 ∨ s.kind = 8 ∨ s.kind = 9 ∨ s.kind = 10 := by omega
  rcases hk' with h | h | h | h | h | h | h | h | h | h | h
  · exact stmt_0 b d dep U fs fns stop mf nf m n F D c s av bv w K ho hn ha hu hbv h
  · exact stmt_1 b d dep U fs fns stop mf nf m n F D c s av bv w K ho hn ha hu hbv h
  · exact stmt_2 b d dep U fs fns stop mf nf m n F D c s av bv w K ho hn ha hu hbv h
  · exact stmt_3 b d dep U fs fns stop mf nf m n F D c s av bv w K ho hn ha hu hbv h
  · exact stmt_4 b d dep U fs fns stop mf nf m n F D c s av bv w K ho hn ha hu hbv h
  · exact stmt_5 b d dep U fs fns stop mf nf m n F D c s av bv w K ho hn ha hu hbv h
  · exact stmt_6 b d dep U fs fns stop mf nf m n F D c s av bv w K ho hn ha hu hbv h
  · exact stmt_7 b d dep U fs fns stop mf nf m n F D c s av bv w K ho hn ha hu hbv h
  · exact stmt_8 b d dep U fs fns stop mf nf m n F D c s av bv w K ho hn ha hu hbv h
  · exact stmt_9 b d dep U fs fns stop mf nf m n F D c s av bv w K ho hn ha hu hbv h
  · exact stmt_10 b d dep U fs fns stop mf nf m n F D c s av bv w K ho hn ha hu hbv h

theorem cstmt_all : ∀ d, CStOk d
  | 0 => fun _ _ _ _ _ _ _ _ _ _ _ _ _ _ _ _ _ _ hT _ _ _ => hT.elim
  | d + 1 => by
    intro b d0 dep U fs fns stop mf nf m n F D c t cs w K hT hO hn hd
    obtain ⟨s, bl⟩ := t
    by_cases hk : s.kind = 11 ∨ s.kind = 12
    · have hv : ckS F fns (d + 1) dep (.mk s bl) (D, c) = bl.foldl (fun x q => ckB F fns d (dep + 1) q x) (D, c) := by
        simp only [ckS, if_pos hk]
        rfl
      rw [hv]
      exact cstmt_blocks d (cstmt_all d) b d0 dep U fs fns stop mf nf m n F D c s bl cs w K hT hO hn hd hk
    · have hv : ckS F fns (d + 1) dep (.mk s bl) (D, c) = plainC F fns s (D, c) := by simp only [ckS, if_neg hk]
      rw [hv]
      have hcn : cntS (d + 1) (.mk s bl) = 1 + (bl.map (fun q => (q.2.map (cntS d)).sum)).sum := rfl
      obtain ⟨av, bv, bcs, hcs, ha, hau, hbr, _⟩ := hT
      obtain ⟨a2, l2, c2, rfl⟩ := owns_form hbr
      have hcs' : cs = vsB s av (.slice a2 l2 c2) := Array.ext' hcs
      subst hcs'
      refine (stmt_plain b d0 dep U fs fns stop mf nf m n F D c s av _ w K hO.1 (by omega) ha hau ⟨a2, l2, c2, rfl⟩ (by have := hO.2.1; omega)).mono ?_
      rintro e w' ⟨rfl, ⟨n', h1, h2⟩, h3⟩
      exact ⟨rfl, ⟨n', by omega, h2⟩, h3⟩

/-- A function's variables, its parameters first. -/
def parsC (l : List PT) (x : DataW Unit × CS) : DataW Unit × CS := l.foldl (fun x t => (declD x.1 t, declC x.1 t x.2)) x

end Go.Proofs.YtgbmakpdjdigmaaGreatDoor

/- The program's checker: a look into the functions' map without 'ok'. -/
namespace Go.Proofs.YtgbmakpdjdigmaaGreatDoor
open Go.RowKit Go.Maps

theorem look0_any {m n N : Nat} {F : DataW Unit} {w : World} {s : ByteArray} (h : MapAt m n F w) (hN : FnsIn F N) (hl : s.size ≤ 4000) :
    (Instr.lookup 192 (.map (some m)) (.string s) false).run Tryz.prog w = .ok (.int .i64 (idxOf F s : Nat)) w := by
  obtain ⟨c, hrun, hat, _⟩ := World.ownsMap.lookup_int h mapLaw Tryz.underlying192 Tryz.underlying3 (zeroInt w) (keyS_of hl)
  have hc : c = ((idxOf F s : Nat) : Int) := by
    cases hh : Maps.has F (keyS s) with
    | true =>
      obtain ⟨j, _, hj⟩ := hN s hh
      rw [hj] at hat
      have e : (j : Int) = c := by simpa using hat
      rw [← e]; simp [idxOf, hj]
    | false =>
      have h0 := atKey_of_not_has hh (.lit (.int .i64 0))
      rw [h0] at hat
      have e : (0 : Int) = c := by simpa using hat
      rw [← e]; simp [idxOf, h0]
  rw [← hc]
  exact hrun

end Go.Proofs.YtgbmakpdjdigmaaGreatDoor

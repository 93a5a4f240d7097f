/- ChE ChF: told at each. -/
import Derived.Test.YtgbmakpdjdigmaaGreatDoorG40
import Derived.Test.YtgbmakpdjdigmaaGreatDoorG42
import Derived.Test.YtgbmakpdjdigmaaGreatDoorG15

/- Plain mathematics and memory words for the reference's look: what it answers, over trees (rkS); a function with other variables (wv). No condition. -/
namespace Go.Proofs.YtgbmakpdjdigmaaGreatDoor
open Go.RowKit

/-- A function with other variables. -/
def wv (fns : List RF) (inn : Nat) (vs : List ByteArray) : List RF := fns.modify inn (fun f => { f with vars := vs })
theorem wv_length (fns : List RF) (inn : Nat) (vs : List ByteArray) : (wv fns inn vs).length = fns.length := by simp [wv]
theorem wv_vars {fns : List RF} {inn : Nat} {vs : List ByteArray} (h : inn < (wv fns inn vs).length) : ((wv fns inn vs)[inn]).vars = vs := by
  simp [wv]
theorem wv_more {fns : List RF} {inn : Nat} {vs : List ByteArray} (h : inn < (wv fns inn vs).length) (s : ByteArray) : (wv fns inn vs).set inn (moreV (wv fns inn vs)[inn] s) = wv fns inn (vs ++ [s]) := by
  apply List.ext_getElem
  · simp [wv]
  · intro i h1 h2
    by_cases hi : inn = i
    · subst hi
      simp [wv, moreV]
    · simp [wv, hi, List.getElem_set_ne hi]
theorem wv_names (fns : List RF) (inn : Nat) (vs : List ByteArray) : (wv fns inn vs).map (fun f => f.name.text) = fns.map (fun f => f.name.text) := by
  apply List.ext_getElem
  · simp [wv]
  · intro i h1 h2
    simp only [wv, List.getElem_map, List.getElem_modify]
    split <;> rfl
theorem wv_takes (fns : List RF) (inn : Nat) (vs : List ByteArray) : (wv fns inn vs).map (fun f => f.takes.length) = fns.map (fun f => f.takes.length) := by
  apply List.ext_getElem
  · simp [wv]
  · intro i h1 h2
    simp only [wv, List.getElem_map, List.getElem_modify]
    split <;> rfl
theorem wv_fun (fns : List RF) (inn : Nat) (vs : List ByteArray) (t : Tk) (m : Int) (c : CS) : funR (wv fns inn vs) t m c = funR fns t m c := by
  unfold funR
  rw [wv_names, wv_takes]
theorem wv_sec (fns : List RF) (inn : Nat) (vs vs' : List ByteArray) (u : FS) (c : CS) : secR (wv fns inn vs) vs' u c = secR fns vs' u c := by
  unfold secR
  simp only [wv_fun]
def secV (fns : List RF) (vs : List ByteArray) (s : VS) (c : CS) : CS :=
  if s.kind = 1 then c else
  (s.args.map toTk).foldl (fun c t => varR vs t c) (if s.kind = 4 then funR fns (toTk s.sr) (-1) c else if s.kind = 7 then funR fns (toTk s.sr) s.args.length c else varR vs (toTk s.sr) c)
theorem sec_same {fns : List RF} {vs : List ByteArray} {s : VS} {u : FS} {inn : Nat} (h : SC s u inn) (c : CS) : secR fns vs u c = secV fns vs s c := by
  have hk := h.kind
  have hf := h.few
  have e2 : u.kind = 2 ↔ s.kind = 1 := by rw [hk]; unfold kindR; repeat' split
                                          all_goals omega
  have e6 : u.kind = 6 ↔ s.kind = 4 := by rw [hk]; unfold kindR; repeat' split
                                          all_goals omega
  have e8 : u.kind = 8 ↔ s.kind = 7 := by rw [hk]; unfold kindR; repeat' split
                                          all_goals omega
  unfold secR secV
  simp only [e2, e6, e8, h.q, h.args, List.length_map]
/-- A statement without blocks. -/
def plainR (fns : List RF) (s : VS) (x : List ByteArray × CS) : List ByteArray × CS :=
  if s.kind = 0 then (x.1 ++ [s.tg.text], declR x.1 (toTk s.tg) x.2)
  else if s.kind = 10 then (x.1, varR x.1 (toTk s.sr) x.2)
  else (x.1, secV fns x.1 s (varR x.1 (toTk s.tg) x.2))
/-- A statement, to a depth, so deep within blocks. -/
def rkS (fns : List RF) : Nat → Nat → TS → List ByteArray × CS → List ByteArray × CS
  | 0, _, _, x => x
  | d + 1, dep, .mk s bl, x =>
    if s.kind = 11 ∨ s.kind = 12 then bl.foldl (fun x q => q.2.foldl (fun x t => rkS fns d (dep + 1) t x) (x.1, if 6 < dep + 1 then addR 4 q.1 x.2 else x.2)) x
    else plainR fns s x
def rkL (fns : List RF) (d dep : Nat) (ts : List TS) (x : List ByteArray × CS) : List ByteArray × CS := ts.foldl (fun x t => rkS fns d dep t x) x
theorem rkS_vars (fns : List RF) : ∀ (d dep : Nat) (t : TS) (x : List ByteArray × CS), (rkS fns d dep t x).1.length ≤ x.1.length + cntS d t
  | 0, _, _, x => by simp [rkS]
  | d + 1, dep, .mk s bl, x => by
    rw [rkS]
    split
    · have IH : ∀ (dep : Nat) (ts : List TS) (x : List ByteArray × CS), (ts.foldl (fun x t => rkS fns d dep t x) x).1.length ≤ x.1.length + (ts.map (cntS d)).sum := by
        intro dep ts
        induction ts with
        | nil => intro x; simp
        | cons t ts ih =>
          intro x
          have h1 := rkS_vars fns d dep t x
          have h2 := ih (rkS fns d dep t x)
          simp only [List.foldl_cons, List.map_cons, List.sum_cons]
          omega
      have : ∀ (l : List (Nat × List TS)) (x : List ByteArray × CS), (l.foldl (fun x q => q.2.foldl (fun x t => rkS fns d (dep + 1) t x) (x.1, if 6 < dep + 1 then addR 4 q.1 x.2 else x.2)) x).1.length ≤ x.1.length + (l.map (fun q => (q.2.map (cntS d)).sum)).sum := by
        intro l
        induction l with
        | nil => intro x; simp
        | cons q l ih =>
          intro x
          have h1 := IH (dep + 1) q.2 (x.1, if 6 < dep + 1 then addR 4 q.1 x.2 else x.2)
          have h2 := ih (q.2.foldl (fun x t => rkS fns d (dep + 1) t x) (x.1, if 6 < dep + 1 then addR 4 q.1 x.2 else x.2))
          simp only [List.foldl_cons, List.map_cons, List.sum_cons] at h1 h2 ⊢
          omega
      have := this bl x
      simp only [cntS]
      omega
    · unfold plainR
      split
      · simp [cntS]
      · split <;> simp
theorem rkL_vars (fns : List RF) (d dep : Nat) : ∀ (ts : List TS) (x : List ByteArray × CS), (rkL fns d dep ts x).1.length ≤ x.1.length + (ts.map (cntS d)).sum
  | [], x => by simp [rkL]
  | t :: ts, x => by
    have h1 := rkS_vars fns d dep t x
    have h2 := rkL_vars fns d dep ts (rkS fns d dep t x)
    simp only [rkL, List.foldl_cons, List.map_cons, List.sum_cons] at h2 ⊢
    omega
theorem rkL_step (fns : List RF) (d dep : Nat) (ts : List TS) (k : Nat) (h : k < ts.length) (x : List ByteArray × CS) : rkL fns d dep (ts.drop k) x = rkL fns d dep (ts.drop (k + 1)) (rkS fns d dep ts[k] x) := by
  unfold rkL
  rw [List.drop_eq_getElem_cons h]; rfl
/-- A statement's cells. -/
theorem StRow.get {B : Nat} {U : Nat → Prop} {w : World} {g l c : Nat} {fs : List FS} (h : StRow B U w (.slice (some ⟨g, 0, none⟩) l c) fs) {i : Nat} (hi : i < fs.length) :
    ∃ av bv ov, (∀ j, j < 15 → w.cell? ⟨g, i * 15 + j, none⟩ = (fsA fs[i] av bv ov)[j]?) ∧ TksAt B w av fs[i].args ∧ IntsAt B w bv fs[i].body ∧ IntsAt B w ov fs[i].other := by
  obtain ⟨cs, hrow, hl, hrep⟩ := h
  have hvl := own_len hrow
  subst hvl
  have hi' : i < cs.length := by omega
  have h15 : ∀ x, x ∈ cs → x.length = 15 := by
    intro x hx
    obtain ⟨j, hj, rfl⟩ := List.mem_iff_getElem.1 hx
    exact (hrep j hj (by omega)).length
  obtain ⟨av, bv, ov, e, h1, h2, h3, _⟩ := hrep i hi' hi
  refine ⟨av, bv, ov, fun j hj => ?_, h1, h2, h3⟩
  have hc := hrow.cellAt (i * 15 + j) (by omega)
  rw [hc, flat_at h15 hi' hj, e]
  simp
/-- What a round of look stands in. -/
structure LkF (pb wb B pl ca : Nat) (U : Nat → Prop) (fv sv : Value) (fns : List RF) (fs : List FS) (sb : Nat) (sc : Array Value) (lv : Value) (l : List Nat) (av : Value) (args : List Tk) (bv : Value) (body : List Nat) (ov : Value) (other : List Nat) (c : CS) (w w' : World) : Prop where
  k : RK pb wb B pl ca U fv sv fns fs c w'
  box : Box sb sc 183 w'
  lrow : IntsAt B w' lv l
  arow : TksAt B w' av args
  brow : IntsAt B w' bv body
  orow : IntsAt B w' ov other
  fr : KFr wb B fv w w'
section
variable {pb wb B pl ca : Nat} {U : Nat → Prop} {fv sv : Value} {fns fns' : List RF} {fs : List FS} {sb : Nat} {sc : Array Value} {lv : Value} {l : List Nat} {av : Value} {args : List Tk} {bv : Value} {body : List Nat} {ov : Value} {other : List Nat} {c c' : CS} {w w1 w2 : World}
theorem LkF.call (h : LkF pb wb B pl ca U fv sv fns fs sb sc lv l av args bv body ov other c w w1) (hk : RK pb wb B pl ca U fv sv fns' fs c' w2) (hf : KFr wb B fv w1 w2) (h1 : sb ≠ wb) (h2 : fv.ownBlock ≠ some sb) : LkF pb wb B pl ca U fv sv fns' fs sb sc lv l av args bv body ov other c' w w2 :=
  ⟨hk, hf.box h.box h1 h2 (by decide), hf.row h.lrow h.k.wr h.k.fn (by decide) (by decide) (by decide), hf.row h.arow h.k.wr h.k.fn (by decide) (by decide) (by decide), hf.row h.brow h.k.wr h.k.fn (by decide) (by decide) (by decide), hf.row h.orow h.k.wr h.k.fn (by decide) (by decide) (by decide), h.fr.trans hf⟩
theorem LkF.still (h : LkF pb wb B pl ca U fv sv fns fs sb sc lv l av args bv body ov other c w w1) (ho : Only (fun _ => False) w1 w2) : LkF pb wb B pl ca U fv sv fns fs sb sc lv l av args bv body ov other c w w2 :=
  ⟨h.k.still ho, h.box.only ho (fun q => q), ownsRow_only h.lrow ho (fun _ _ q => q), ownsRow_only h.arow ho (fun _ _ q => q), ownsRow_only h.brow ho (fun _ _ q => q), ownsRow_only h.orow ho (fun _ _ q => q), h.fr.trans (KFr.ofStill ho)⟩
end
/-- The contract of look at trees of a depth. -/
def LookOk (d : Nat) : Prop := ∀ (pb wb B pl ca inn dep : Nat) (U : Nat → Prop) (fv sv lv : Value) (fns : List RF) (fs : List FS) (l : List Nat) (ts : List TS) (vs : List ByteArray) (c : CS) (w : World),
  RK pb wb B pl ca U fv sv (wv fns inn vs) fs c w → IntsAt B w lv l → All2 (Flat inn d fs) l ts → inn < fns.length → fns.length ≤ 4001 → fs.length ≤ 4001 → vs.length + (ts.map (cntS d)).sum ≤ 4001 → l.length ≤ 4001 → (∀ u, u ∈ fs → u.args.length ≤ 4001 ∧ u.body.length ≤ 4001 ∧ u.other.length ≤ 4001) → dep + d ≤ 9000 →
  Calls Tryz.prog 49 #[.pointer (some ⟨pb, 0, none⟩), .pointer (some ⟨wb, 0, none⟩), lv, .int .i64 dep] w fun e w' => e = .returned (.tuple #[]) ∧ RK pb wb B pl ca U fv sv (wv fns inn (rkL fns d dep ts (vs, c)).1) fs (rkL fns d dep ts (vs, c)).2 w' ∧ KFr wb B fv w w'

end Go.Proofs.YtgbmakpdjdigmaaGreatDoor

/- The reference's look: what it leaves, over trees of a depth, out of its contract at the depth below. -/
namespace Go.Proofs.YtgbmakpdjdigmaaGreatDoor
open Go.RowKit

theorem cntS_one (d : Nat) (t : TS) : 1 ≤ cntS (d + 1) t := by
  obtain ⟨s, bl⟩ := t
  rw [cntS]; omega
theorem cnt_drop (d : Nat) (ts : List TS) (k : Nat) (h : k < ts.length) : ((ts.drop k).map (cntS d)).sum = cntS d ts[k] + ((ts.drop (k + 1)).map (cntS d)).sum := by
  rw [List.drop_eq_getElem_cons h, List.map_cons, List.sum_cons]

set_option maxRecDepth 100000 in
set_option maxHeartbeats 4000000 in
theorem look_step (d : Nat) (ih : ∀ d', d = d' + 1 → LookOk d') : LookOk d := by
  intro pb wb B pl ca inn dep U fv sv lv fns fs l ts vs c w K hlv hfl hin hn hfs hcn hl hua hdep
  obtain ⟨la, ll, lc, rfl⟩ := owns_form hlv
  have hll := own_len hlv
  subst hll
  obtain ⟨fa, fl, fc, rfl⟩ : ∃ a l c, fv = .slice a l c := by obtain ⟨_, h, _⟩ := K.fn; exact owns_form h
  obtain ⟨sa, sl, sc, rfl⟩ : ∃ a l c, sv = .slice a l c := by obtain ⟨_, h, _⟩ := K.st; exact owns_form h
  have hsl : sl = fs.length := by obtain ⟨_, h, _⟩ := K.st; exact own_len h
  subst hsl
  have hlen := hfl.length
  generalize hV : rkL fns d dep ts (vs, c) = V
  have HV : Hid (rkL fns d dep (ts.drop 0) (vs, c) = V) := hV
  have HK := hide1 K
  have HL := hide1 hlv
  have HFL := hide1 hfl
  have HUA := hide1 hua
  have HC0 : Hid (vs.length + ((ts.drop 0).map (cntS d)).sum ≤ 4001) := hcn
  have IH := hide1 ih
  have hin' : ∀ vs', inn < (wv fns inn vs').length := fun vs' => by rw [wv_length]; exact hin
  have hn' : ∀ vs', (wv fns inn vs').length ≤ 4001 := fun vs' => by rw [wv_length]; exact hn
  clear hV K hlv hfl hcn hua ih
  go_enter Tryz.func49, Tryz.ntmps49
  go_wp2
  go_loopw [8] (fun i wr => ∃ (k : Nat) (vs' : List ByteArray) (c' : CS), k ≤ l.length ∧ i = .int .i64 k ∧ Hid (RK pb wb B pl ca U (.slice fa fl fc) (.slice sa fs.length sc) (wv fns inn vs') fs c' wr) ∧ Hid (IntsAt B wr (.slice la l.length lc) l) ∧ Hid (KFr wb B (.slice fa fl fc) w wr) ∧ Hid (vs'.length + ((ts.drop k).map (cntS d)).sum ≤ 4001) ∧ Hid (rkL fns d dep (ts.drop k) (vs', c') = V)) (fun i _ => l.length - (intOf i).toNat)
  case atStart => exact ⟨0, vs, c, by omega, rfl, HK, HL, KFr.refl _ _ _ _, HC0, HV⟩
  case round =>
    clear HK HL HC0 HV
    obtain ⟨k, vs1, c1, hk, rfl, HK, HL, HF, HN, HC⟩ := hrel
    by_cases hlt : k < l.length
    · have hkt : k < ts.length := by omega
      have hst := rkL_step fns d dep ts k hkt (vs1, c1)
      rw [HC.out] at hst
      have hcn := cnt_drop d ts k hkt
      have hcn1 := HN.out
      rw [hcn] at hcn1
      have hF := HFL.out.get k hlt hkt
      generalize ts[k] = t at *
      obtain ⟨gl, rfl⟩ := own_some HL.out (by omega)
      have hcell := HL.out.cellAt k (by omega)
      rw [List.getElem?_map, List.getElem?_eq_getElem hlt] at hcell
      simp only [Option.map_some] at hcell
      have lgl := (HL.out.lt gl rfl).2
      generalize l[k] = j at *
      obtain ⟨d', hd'⟩ : ∃ d', d = d' + 1 := by
        cases d with
        | zero => exact hF.elim
        | succ d' => exact ⟨d', rfl⟩
      have ihd := IH.out d' hd'
      subst hd'
      obtain ⟨s, bl⟩ := t
      obtain ⟨u, hu, hF⟩ := hF
      have hj : j < fs.length := by
        rcases Nat.lt_or_ge j fs.length with q | q
        · exact q
        · rw [List.getElem?_eq_none q] at hu; cases hu
      have hju : fs[j] = u := by rw [List.getElem?_eq_getElem hj] at hu; simpa using hu
      have hum := HUA.out u (by rw [← hju]; exact List.getElem_mem _)
      obtain ⟨gs, rfl⟩ : ∃ gs, sa = some ⟨gs, 0, none⟩ := by obtain ⟨_, h, _⟩ := HK.out.st; exact own_some h (by omega)
      have lgs : gs < wr.heap.size := by obtain ⟨_, h, _⟩ := HK.out.st; exact (h.lt gs rfl).2
      obtain ⟨av, bv, ov, hc, hav, hbv, hov⟩ := HK.out.st.get hj
      rw [hju] at hc hav hbv hov
      obtain ⟨aa, al, ac, rfl⟩ := owns_form hav
      have hal := own_len hav
      subst hal
      obtain ⟨ba, bll, bc, rfl⟩ := owns_form hbv
      have hbl := own_len hbv
      subst hbl
      obtain ⟨oa, ol, oc, rfl⟩ := owns_form hov
      have hol := own_len hov
      subst hol
      have e0 := hc 0 (by omega)
      have e1 := hc 1 (by omega)
      have e2 := hc 2 (by omega)
      have e3 := hc 3 (by omega)
      have e4 := hc 4 (by omega)
      have e5 := hc 5 (by omega)
      have e6 := hc 6 (by omega)
      have e7 := hc 7 (by omega)
      have e8 := hc 8 (by omega)
      have e9 := hc 9 (by omega)
      have e10 := hc 10 (by omega)
      have e11 := hc 11 (by omega)
      have e12 := hc 12 (by omega)
      have e13 := hc 13 (by omega)
      have e14 := hc 14 (by omega)
      simp only [fsA, List.getElem?_toArray, List.getElem?_cons_zero, List.getElem?_cons_succ, Nat.add_zero] at e0 e1 e2 e3 e4 e5 e6 e7 e8 e9 e10 e11 e12 e13 e14
      have p1 := HK.out.pr.box.cell 1
      simp at p1
      have lp := blk_lt HK.out.pr
      have lw := blk_lt HK.out.wr
      have hsw : wr.heap.size ≠ wb := by omega
      have hsf : Value.ownBlock (.slice fa fl fc) ≠ some wr.heap.size := fun q => by obtain ⟨_, h, _⟩ := HK.out.fn; have := (h.lt _ q).2; omega
      have hkl : (k : Int) < (l.length : Int) := by omega
      have hjl : (j : Int) < (fs.length : Int) := by omega
      have S0 : Hid (LkF pb wb B pl ca U (.slice fa fl fc) (.slice (some ⟨gs, 0, none⟩) fs.length sc) (wv fns inn vs1) fs wr.heap.size (fsA u (.slice aa u.args.length ac) (.slice ba u.body.length bc) (.slice oa u.other.length oc)) (.slice (some ⟨gl, 0, none⟩) l.length lc) l (.slice aa u.args.length ac) u.args (.slice ba u.body.length bc) u.body (.slice oa u.other.length oc) u.other c1 w (wr.alloc (.cells (fsA u (.slice aa u.args.length ac) (.slice ba u.body.length bc) (.slice oa u.other.length oc)) 183))) := by
        have ho := (Only.refl (fun _ => False) wr).alloc (.cells (fsA u (.slice aa u.args.length ac) (.slice ba u.body.length bc) (.slice oa u.other.length oc)) 183)
        exact ⟨HK.out.still ho, Box.new _ _ _, ownsRow_only HL.out ho (fun _ _ q => q), ownsRow_only hav ho (fun _ _ q => q), ownsRow_only hbv ho (fun _ _ q => q), ownsRow_only hov ho (fun _ _ q => q), HF.out.trans (KFr.ofStill ho)⟩
      have HST := hide1 hst.symm
      have HCN := hide1 hcn1
      have HFF := hide1 hF
      have HIH := hide1 ihd
      clear hc hav hbv hov hst hcn hcn1 hF HK HL HF HN HC hu hju ihd
      have HLEN := hide1 hlen
      clear hlen
      go_wp2_with fail
      go_region
      have S1 : Hid (LkF pb wb B pl ca U (.slice fa fl fc) (.slice (some ⟨gs, 0, none⟩) fs.length sc) (wv fns inn vs1) fs wr.heap.size #[.int .i64 u.kind, .string u.p.text, .int .i64 u.p.pos, .int .i64 u.p.sort, .string u.q.text, .int .i64 u.q.pos, .int .i64 u.q.sort, .int .i64 u.field, .slice aa u.args.length ac, .int .i64 u.place, .slice ba u.body.length bc, .slice oa u.other.length oc, .int .i64 u.br, .int .i64 u.br2, .int .i64 u.inn] (.slice (some ⟨gl, 0, none⟩) l.length lc) l (.slice aa u.args.length ac) u.args (.slice ba u.body.length bc) u.body (.slice oa u.other.length oc) u.other c1 w ((wr.alloc (.cells #[.int .i64 u.kind, .string u.p.text, .int .i64 u.p.pos, .int .i64 u.p.sort, .string u.q.text, .int .i64 u.q.pos, .int .i64 u.q.sort, .int .i64 u.field, .slice aa u.args.length ac, .int .i64 u.place, .slice ba u.body.length bc, .slice oa u.other.length oc, .int .i64 u.br, .int .i64 u.br2, .int .i64 u.inn] 183)).drew)) := S0.out.still ((Only.refl _ _).drew)
      generalize (wr.alloc (.cells #[.int .i64 u.kind, .string u.p.text, .int .i64 u.p.pos, .int .i64 u.p.sort, .string u.q.text, .int .i64 u.q.pos, .int .i64 u.q.sort, .int .i64 u.field, .slice aa u.args.length ac, .int .i64 u.place, .slice ba u.body.length bc, .slice oa u.other.length oc, .int .i64 u.br, .int .i64 u.br2, .int .i64 u.inn] 183)).drew = W0 at S1 ⊢
      generalize hbb : wr.heap.size = sb at *
      have b0 := S1.out.box.cell 0
      have b1 := S1.out.box.cell 1
      have b2 := S1.out.box.cell 2
      have b3 := S1.out.box.cell 3
      have b4 := S1.out.box.cell 4
      have b5 := S1.out.box.cell 5
      have b6 := S1.out.box.cell 6
      have b7 := S1.out.box.cell 7
      have b8 := S1.out.box.cell 8
      have b9 := S1.out.box.cell 9
      have b10 := S1.out.box.cell 10
      have b11 := S1.out.box.cell 11
      have b12 := S1.out.box.cell 12
      have b13 := S1.out.box.cell 13
      have b14 := S1.out.box.cell 14
      simp only [List.getElem?_toArray, List.getElem?_cons_zero, List.getElem?_cons_succ] at b0 b1 b2 b3 b4 b5 b6 b7 b8 b9 b10 b11 b12 b13 b14
      have lsb := blk_lt S1.out.box
      clear e0 e1 e2 e3 e4 e5 e6 e7 e8 e9 e10 e11 e12 e13 e14 S0 hcell p1 lgl lgs lp lw
      obtain ⟨a, b, hab⟩ : ∃ a b, rkS fns (d' + 1) dep (.mk s bl) (vs1, c1) = (a, b) := ⟨_, _, rfl⟩
      have hva := rkS_vars fns (d' + 1) dep (.mk s bl) (vs1, c1)
      have HCN2 : Hid (a.length + ((ts.drop (k + 1)).map (cntS (d' + 1))).sum ≤ 4001) := by
        have h1 := HCN.out
        rw [hab] at hva
        simp only at hva
        show _ ≤ _
        omega
      have HST2 : Hid (rkL fns (d' + 1) dep (ts.drop (k + 1)) (a, b) = V) := by rw [← hab]; exact HST.out
      have HV1 : Hid (vs1.length + cntS (d' + 1) (.mk s bl) ≤ 4001) := by have := HCN.out; show _ ≤ _; omega
      have HAB := hide1 hab
      have hw1 := S1.out.k
      have hv1 : ((wv fns inn vs1)[inn]'(hin' vs1)).vars = vs1 := wv_vars (hin' vs1)
      have HWV := hide1 hv1
      have hvl1 : vs1.length ≤ 4001 := by have := HV1.out; omega
      clear hab hva HST HCN hw1 hv1
      rcases HFF.out with ⟨hbl, hsc⟩ | ⟨p, ts1, hbl, hs, hk, hii, hbr, hbr2, hot, hal⟩ | ⟨p, ts1, hbl, hs, hk, hii, hbr, hbr2, hot, hal⟩ | ⟨p, ts1, p2, ts2, hbl, hs, hk, hii, hbr, hbr2, hal, hal2⟩
      · subst hbl
        have hii := hsc.inn
        subst hii
        have hkk := hsc.kind
        have hfew := hsc.few
        have HSC := hide1 hsc
        have HK0 := hide1 hkk
        clear HFF hsc
        by_cases h0 : s.kind = 0
        · have hu1 : u.kind = 1 := by rw [hkk, h0]; rfl
          have k1 : ((u.kind : Int) == 1) = true := by simp [hu1]
          have hab : a = vs1 ++ [u.p.text] ∧ b = declR vs1 u.p c1 := by
            have := HAB.out
            rw [rkS, if_neg (by omega), plainR, if_pos h0] at this
            simp only [Prod.mk.injEq] at this
            rw [HSC.out.p]
            exact ⟨this.1.symm, this.2.symm⟩
          obtain ⟨rfl, rfl⟩ := hab
          clear hkk hu1 hfew h0
          go_wp2_with (go_at_call 48; refine (rdeclare_any pb wb B pl ca u.inn U _ _ (wv fns u.inn vs1) fs c1 u.p _ S1.out.k (hin' _) (hn' _) (by rw [HWV.out]; exact hvl1)).mono ?_; rw [wv_more, HWV.out]; rintro e w2 ⟨rfl, hk2, hf2⟩)
          have S9 := hide1 (S1.out.call hk2 hf2 hsw hsf)
          clear hk2 hf2 S1
          go_wp2_with fail
          exact ⟨⟨k + 1, _, _, by omega, by go_num, S9.out.k, S9.out.lrow, S9.out.fr, HCN2.out, HST2.out⟩, by simp [intOf]; omega⟩
        by_cases h10 : s.kind = 10
        · have hu1 : u.kind = 11 := by rw [hkk, h10]; rfl
          have k1 : ((u.kind : Int) == 1) = false := by simp [hu1]
          have k2 : ((u.kind : Int) == 12) = false := by simp [hu1]
          have k3 : ((u.kind : Int) == 13) = false := by simp [hu1]
          have k4 : ((u.kind : Int) == 11) = true := by simp [hu1]
          have hab : a = vs1 ∧ b = varR vs1 u.q c1 := by
            have := HAB.out
            rw [rkS, if_neg (by omega), plainR, if_neg h0, if_pos h10] at this
            simp only [Prod.mk.injEq] at this
            rw [HSC.out.q]
            exact ⟨this.1.symm, this.2.symm⟩
          obtain ⟨rfl, rfl⟩ := hab
          clear hkk hu1 hfew h0 h10
          go_wp2_with (go_at_call 93; refine (rvariable_any pb wb B pl ca u.inn U _ _ (wv fns u.inn a) fs c1 u.q _ S1.out.k (hin' _) (hn' _) (by rw [HWV.out]; exact hvl1)).mono ?_; rw [HWV.out]; rintro e w2 ⟨rfl, hk2, hf2⟩)
          have S9 := hide1 (S1.out.call hk2 hf2 hsw hsf)
          clear hk2 hf2 S1
          go_wp2_with fail
          exact ⟨⟨k + 1, _, _, by omega, by go_num, S9.out.k, S9.out.lrow, S9.out.fr, HCN2.out, HST2.out⟩, by simp [intOf]; omega⟩
        · have hu1 : 2 ≤ u.kind ∧ u.kind ≤ 10 := by rw [hkk]; unfold kindR; repeat' split
                                                    all_goals omega
          have k1 : ((u.kind : Int) == 1) = false := by simp; omega
          have k2 : ((u.kind : Int) == 12) = false := by simp; omega
          have k3 : ((u.kind : Int) == 13) = false := by simp; omega
          have k4 : ((u.kind : Int) == 11) = false := by simp; omega
          have hab : a = vs1 ∧ b = secR (wv fns u.inn vs1) vs1 u (varR vs1 u.p c1) := by
            have := HAB.out
            rw [rkS, if_neg (by omega), plainR, if_neg h0, if_neg h10] at this
            simp only [Prod.mk.injEq] at this
            rw [wv_sec, sec_same HSC.out, HSC.out.p]
            exact ⟨this.1.symm, this.2.symm⟩
          obtain ⟨rfl, rfl⟩ := hab
          clear hkk hu1 hfew h0 h10
          go_wp2_with fail
          refine (rvariable_any pb wb B pl ca u.inn U _ _ (wv fns u.inn a) fs c1 u.p _ S1.out.k (hin' _) (hn' _) (by rw [HWV.out]; exact hvl1)).mono ?_
          rw [HWV.out]
          rintro e w2 ⟨rfl, hk2, hf2⟩
          have S2 := hide1 (S1.out.call hk2 hf2 hsw hsf)
          clear hk2 hf2 S1 b0 b1 b2 b3 b4 b5 b6 b7 b8 b9 b10 b11 b12 b13 b14 lsb
          have b0 := S2.out.box.cell 0
          have b1 := S2.out.box.cell 1
          have b2 := S2.out.box.cell 2
          have b3 := S2.out.box.cell 3
          have b4 := S2.out.box.cell 4
          have b5 := S2.out.box.cell 5
          have b6 := S2.out.box.cell 6
          have b7 := S2.out.box.cell 7
          have b8 := S2.out.box.cell 8
          have b9 := S2.out.box.cell 9
          have b10 := S2.out.box.cell 10
          have b11 := S2.out.box.cell 11
          have b12 := S2.out.box.cell 12
          have b13 := S2.out.box.cell 13
          have b14 := S2.out.box.cell 14
          simp only [List.getElem?_toArray, List.getElem?_cons_zero, List.getElem?_cons_succ] at b0 b1 b2 b3 b4 b5 b6 b7 b8 b9 b10 b11 b12 b13 b14
          have lsb := blk_lt S2.out.box
          go_wp2_with fail
          refine (second_any pb wb B pl ca U (.slice fa fl fc) (.slice (some ⟨gs, 0, none⟩) fs.length sc) (wv fns u.inn a) fs (varR a u.p c1) u (.slice aa u.args.length ac) (.slice ba u.body.length bc) (.slice oa u.other.length oc) a _ S2.out.k S2.out.arow ⟨_, _, _, rfl⟩ ⟨_, _, _, rfl⟩ (hin' _) (hn' _) HWV.out hvl1 hum.1).mono ?_
          rintro e w3 ⟨rfl, hk3, hf3⟩
          have S9 := hide1 (S2.out.call hk3 hf3 hsw hsf)
          clear hk3 hf3 S2
          go_wp2_with fail
          exact ⟨⟨k + 1, _, _, by omega, by go_num, S9.out.k, S9.out.lrow, S9.out.fr, HCN2.out, HST2.out⟩, by simp [intOf]; omega⟩
      · subst hii
        subst hbl
        subst hs
        have k1 : ((u.kind : Int) == 1) = false := by simp [hk]
        have k2 : ((u.kind : Int) == 12) = false := by simp [hk]
        have k3 : ((u.kind : Int) == 13) = true := by simp [hk]
        have HAL := hide1 (hal.mono (fun _ _ r => r.2))
        have HAL2 : Hid (All2 (Flat u.inn d' fs) u.other []) := by rw [hot]; exact .nil
        have HDP : Hid (((dep : Int) + 1) = ((dep + 1 : Nat) : Int)) := by show _ = _; omega
        have HCT := HV1.out
        simp only [cntS, List.map_cons, List.map_nil, List.sum_cons, List.sum_nil] at HCT
        have HBR := hide1 hbr
        have HBR2 := hide1 hbr2
        have HKK := hide1 hk
        clear HFF hal hot hk hbr hbr2
        have hum2 := hum.2.1
        have hum3 := hum.2.2
        have h6 := Nat.lt_or_ge 6 (dep + 1)
        rcases h6 with h6 | h6
        · have h6' : decide ((6 : Int) < (dep : Int) + 1) = true := by simp; omega
          obtain ⟨x1, y1, hx1⟩ : ∃ x y, rkL fns d' (dep + 1) ts1 (vs1, (addR 4 p c1)) = (x, y) := ⟨_, _, rfl⟩
          have hxl := rkL_vars fns d' (dep + 1) ts1 (vs1, (addR 4 p c1))
          rw [hx1] at hxl
          simp only at hxl
          obtain ⟨x2, y2, hx2⟩ : ∃ x y, rkL fns d' (dep + 1) [] (x1, y1) = (x, y) := ⟨_, _, rfl⟩
          have hab : x2 = a ∧ y2 = b := by
            have := HAB.out
            rw [rkS, if_pos (by simp [vsK])] at this
            simp only [List.foldl_cons, List.foldl_nil, h6, if_true] at this
            unfold rkL at hx1 hx2
            rw [hx1] at this
            simp only [List.foldl_nil, Prod.mk.injEq] at this hx2
            exact ⟨hx2.1.symm.trans this.1, hx2.2.symm.trans this.2⟩
          obtain ⟨rfl, rfl⟩ := hab
          have HX1 := hide1 hx1
          have HX2 := hide1 hx2
          clear hx1 hx2 h6
          rw [HBR.out] at b12
          have h2' : decide ((0 : Int) ≤ u.br2) = false := by rw [HBR2.out]; simp
          go_wp2_with fail
          refine (radd_any wb 4 p c1 _ S1.out.k.wr).mono ?_
          rintro e w2 ⟨rfl, hr2, ho2⟩
          have S2 := hide1 (S1.out.call (S1.out.k.add hr2 ho2) (KFr.ofOnly ho2) hsw hsf)
          clear hr2 ho2 S1 b0 b1 b2 b3 b4 b5 b6 b7 b8 b9 b10 b11 b12 b13 b14 lsb
          have b0 := S2.out.box.cell 0
          have b1 := S2.out.box.cell 1
          have b2 := S2.out.box.cell 2
          have b3 := S2.out.box.cell 3
          have b4 := S2.out.box.cell 4
          have b5 := S2.out.box.cell 5
          have b6 := S2.out.box.cell 6
          have b7 := S2.out.box.cell 7
          have b8 := S2.out.box.cell 8
          have b9 := S2.out.box.cell 9
          have b10 := S2.out.box.cell 10
          have b11 := S2.out.box.cell 11
          have b12 := S2.out.box.cell 12
          have b13 := S2.out.box.cell 13
          have b14 := S2.out.box.cell 14
          simp only [List.getElem?_toArray, List.getElem?_cons_zero, List.getElem?_cons_succ] at b0 b1 b2 b3 b4 b5 b6 b7 b8 b9 b10 b11 b12 b13 b14
          have lsb := blk_lt S2.out.box
          go_wp2_with fail
          rw [HDP.out]
          refine (HIH.out pb wb B pl ca u.inn (dep + 1) U _ _ _ fns fs u.body ts1 vs1 (addR 4 p c1) _ S2.out.k S2.out.brow HAL.out hin hn hfs (by omega) hum2 HUA.out (by omega)).mono ?_
          rintro e w4 ⟨rfl, hk2, hf2⟩
          rw [HX1.out] at hk2 
          have S4 := hide1 (S2.out.call hk2 hf2 hsw hsf)
          clear hk2 hf2 S2 b0 b1 b2 b3 b4 b5 b6 b7 b8 b9 b10 b11 b12 b13 b14 lsb
          have b0 := S4.out.box.cell 0
          have b1 := S4.out.box.cell 1
          have b2 := S4.out.box.cell 2
          have b3 := S4.out.box.cell 3
          have b4 := S4.out.box.cell 4
          have b5 := S4.out.box.cell 5
          have b6 := S4.out.box.cell 6
          have b7 := S4.out.box.cell 7
          have b8 := S4.out.box.cell 8
          have b9 := S4.out.box.cell 9
          have b10 := S4.out.box.cell 10
          have b11 := S4.out.box.cell 11
          have b12 := S4.out.box.cell 12
          have b13 := S4.out.box.cell 13
          have b14 := S4.out.box.cell 14
          simp only [List.getElem?_toArray, List.getElem?_cons_zero, List.getElem?_cons_succ] at b0 b1 b2 b3 b4 b5 b6 b7 b8 b9 b10 b11 b12 b13 b14
          have lsb := blk_lt S4.out.box
          go_wp2_with fail
          rw [HDP.out]
          refine (HIH.out pb wb B pl ca u.inn (dep + 1) U _ _ _ fns fs u.other [] x1 y1 _ S4.out.k S4.out.orow HAL2.out hin hn hfs (by simp only [List.map_nil, List.sum_nil]; omega) hum3 HUA.out (by omega)).mono ?_
          rintro e w6 ⟨rfl, hk2, hf2⟩
          rw [HX2.out] at hk2
          have S9 := hide1 (S4.out.call hk2 hf2 hsw hsf)
          clear hk2 hf2 S4
          go_wp2_with fail
          exact ⟨⟨k + 1, _, _, by omega, by go_num, S9.out.k, S9.out.lrow, S9.out.fr, HCN2.out, HST2.out⟩, by simp [intOf]; omega⟩
        · have h6' : decide ((6 : Int) < (dep : Int) + 1) = false := by simp; omega
          obtain ⟨x1, y1, hx1⟩ : ∃ x y, rkL fns d' (dep + 1) ts1 (vs1, c1) = (x, y) := ⟨_, _, rfl⟩
          have hxl := rkL_vars fns d' (dep + 1) ts1 (vs1, c1)
          rw [hx1] at hxl
          simp only at hxl
          obtain ⟨x2, y2, hx2⟩ : ∃ x y, rkL fns d' (dep + 1) [] (x1, y1) = (x, y) := ⟨_, _, rfl⟩
          have hab : x2 = a ∧ y2 = b := by
            have := HAB.out
            rw [rkS, if_pos (by simp [vsK])] at this
            simp only [List.foldl_cons, List.foldl_nil, Nat.not_lt.2 h6, if_false] at this
            unfold rkL at hx1 hx2
            rw [hx1] at this
            simp only [List.foldl_nil, Prod.mk.injEq] at this hx2
            exact ⟨hx2.1.symm.trans this.1, hx2.2.symm.trans this.2⟩
          obtain ⟨rfl, rfl⟩ := hab
          have HX1 := hide1 hx1
          have HX2 := hide1 hx2
          clear hx1 hx2 h6
          rw [HBR.out] at b12
          go_wp2_with fail
          rw [HDP.out]
          refine (HIH.out pb wb B pl ca u.inn (dep + 1) U _ _ _ fns fs u.body ts1 vs1 c1 _ S1.out.k S1.out.brow HAL.out hin hn hfs (by omega) hum2 HUA.out (by omega)).mono ?_
          rintro e w4 ⟨rfl, hk2, hf2⟩
          rw [HX1.out] at hk2 
          have S4 := hide1 (S1.out.call hk2 hf2 hsw hsf)
          clear hk2 hf2 S1 b0 b1 b2 b3 b4 b5 b6 b7 b8 b9 b10 b11 b12 b13 b14 lsb
          have b0 := S4.out.box.cell 0
          have b1 := S4.out.box.cell 1
          have b2 := S4.out.box.cell 2
          have b3 := S4.out.box.cell 3
          have b4 := S4.out.box.cell 4
          have b5 := S4.out.box.cell 5
          have b6 := S4.out.box.cell 6
          have b7 := S4.out.box.cell 7
          have b8 := S4.out.box.cell 8
          have b9 := S4.out.box.cell 9
          have b10 := S4.out.box.cell 10
          have b11 := S4.out.box.cell 11
          have b12 := S4.out.box.cell 12
          have b13 := S4.out.box.cell 13
          have b14 := S4.out.box.cell 14
          simp only [List.getElem?_toArray, List.getElem?_cons_zero, List.getElem?_cons_succ] at b0 b1 b2 b3 b4 b5 b6 b7 b8 b9 b10 b11 b12 b13 b14
          have lsb := blk_lt S4.out.box
          go_wp2_with fail
          rw [HDP.out]
          refine (HIH.out pb wb B pl ca u.inn (dep + 1) U _ _ _ fns fs u.other [] x1 y1 _ S4.out.k S4.out.orow HAL2.out hin hn hfs (by simp only [List.map_nil, List.sum_nil]; omega) hum3 HUA.out (by omega)).mono ?_
          rintro e w6 ⟨rfl, hk2, hf2⟩
          rw [HX2.out] at hk2
          have S9 := hide1 (S4.out.call hk2 hf2 hsw hsf)
          clear hk2 hf2 S4
          go_wp2_with fail
          exact ⟨⟨k + 1, _, _, by omega, by go_num, S9.out.k, S9.out.lrow, S9.out.fr, HCN2.out, HST2.out⟩, by simp [intOf]; omega⟩
      · subst hii
        subst hbl
        subst hs
        have k1 : ((u.kind : Int) == 1) = false := by simp [hk]
        have k2 : ((u.kind : Int) == 12) = true := by simp [hk]
        have HAL := hide1 (hal.mono (fun _ _ r => r.2))
        have HAL2 : Hid (All2 (Flat u.inn d' fs) u.other []) := by rw [hot]; exact .nil
        have HDP : Hid (((dep : Int) + 1) = ((dep + 1 : Nat) : Int)) := by show _ = _; omega
        have HCT := HV1.out
        simp only [cntS, List.map_cons, List.map_nil, List.sum_cons, List.sum_nil] at HCT
        have HBR := hide1 hbr
        have HBR2 := hide1 hbr2
        have HKK := hide1 hk
        clear HFF hal hot hk hbr hbr2
        have hum2 := hum.2.1
        have hum3 := hum.2.2
        have h6 := Nat.lt_or_ge 6 (dep + 1)
        rcases h6 with h6 | h6
        · have h6' : decide ((6 : Int) < (dep : Int) + 1) = true := by simp; omega
          obtain ⟨x1, y1, hx1⟩ : ∃ x y, rkL fns d' (dep + 1) ts1 (vs1, (addR 4 p c1)) = (x, y) := ⟨_, _, rfl⟩
          have hxl := rkL_vars fns d' (dep + 1) ts1 (vs1, (addR 4 p c1))
          rw [hx1] at hxl
          simp only at hxl
          obtain ⟨x2, y2, hx2⟩ : ∃ x y, rkL fns d' (dep + 1) [] (x1, y1) = (x, y) := ⟨_, _, rfl⟩
          have hab : x2 = a ∧ y2 = b := by
            have := HAB.out
            rw [rkS, if_pos (by simp [vsK])] at this
            simp only [List.foldl_cons, List.foldl_nil, h6, if_true] at this
            unfold rkL at hx1 hx2
            rw [hx1] at this
            simp only [List.foldl_nil, Prod.mk.injEq] at this hx2
            exact ⟨hx2.1.symm.trans this.1, hx2.2.symm.trans this.2⟩
          obtain ⟨rfl, rfl⟩ := hab
          have HX1 := hide1 hx1
          have HX2 := hide1 hx2
          clear hx1 hx2 h6
          rw [HBR.out] at b12
          have h2' : decide ((0 : Int) ≤ u.br2) = false := by rw [HBR2.out]; simp
          go_wp2_with fail
          refine (radd_any wb 4 p c1 _ S1.out.k.wr).mono ?_
          rintro e w2 ⟨rfl, hr2, ho2⟩
          have S2 := hide1 (S1.out.call (S1.out.k.add hr2 ho2) (KFr.ofOnly ho2) hsw hsf)
          clear hr2 ho2 S1 b0 b1 b2 b3 b4 b5 b6 b7 b8 b9 b10 b11 b12 b13 b14 lsb
          have b0 := S2.out.box.cell 0
          have b1 := S2.out.box.cell 1
          have b2 := S2.out.box.cell 2
          have b3 := S2.out.box.cell 3
          have b4 := S2.out.box.cell 4
          have b5 := S2.out.box.cell 5
          have b6 := S2.out.box.cell 6
          have b7 := S2.out.box.cell 7
          have b8 := S2.out.box.cell 8
          have b9 := S2.out.box.cell 9
          have b10 := S2.out.box.cell 10
          have b11 := S2.out.box.cell 11
          have b12 := S2.out.box.cell 12
          have b13 := S2.out.box.cell 13
          have b14 := S2.out.box.cell 14
          simp only [List.getElem?_toArray, List.getElem?_cons_zero, List.getElem?_cons_succ] at b0 b1 b2 b3 b4 b5 b6 b7 b8 b9 b10 b11 b12 b13 b14
          have lsb := blk_lt S2.out.box
          go_wp2_with fail
          rw [HDP.out]
          refine (HIH.out pb wb B pl ca u.inn (dep + 1) U _ _ _ fns fs u.body ts1 vs1 (addR 4 p c1) _ S2.out.k S2.out.brow HAL.out hin hn hfs (by omega) hum2 HUA.out (by omega)).mono ?_
          rintro e w4 ⟨rfl, hk2, hf2⟩
          rw [HX1.out] at hk2 
          have S4 := hide1 (S2.out.call hk2 hf2 hsw hsf)
          clear hk2 hf2 S2 b0 b1 b2 b3 b4 b5 b6 b7 b8 b9 b10 b11 b12 b13 b14 lsb
          have b0 := S4.out.box.cell 0
          have b1 := S4.out.box.cell 1
          have b2 := S4.out.box.cell 2
          have b3 := S4.out.box.cell 3
          have b4 := S4.out.box.cell 4
          have b5 := S4.out.box.cell 5
          have b6 := S4.out.box.cell 6
          have b7 := S4.out.box.cell 7
          have b8 := S4.out.box.cell 8
          have b9 := S4.out.box.cell 9
          have b10 := S4.out.box.cell 10
          have b11 := S4.out.box.cell 11
          have b12 := S4.out.box.cell 12
          have b13 := S4.out.box.cell 13
          have b14 := S4.out.box.cell 14
          simp only [List.getElem?_toArray, List.getElem?_cons_zero, List.getElem?_cons_succ] at b0 b1 b2 b3 b4 b5 b6 b7 b8 b9 b10 b11 b12 b13 b14
          have lsb := blk_lt S4.out.box
          go_wp2_with fail
          rw [HDP.out]
          refine (HIH.out pb wb B pl ca u.inn (dep + 1) U _ _ _ fns fs u.other [] x1 y1 _ S4.out.k S4.out.orow HAL2.out hin hn hfs (by simp only [List.map_nil, List.sum_nil]; omega) hum3 HUA.out (by omega)).mono ?_
          rintro e w6 ⟨rfl, hk2, hf2⟩
          rw [HX2.out] at hk2
          have S9 := hide1 (S4.out.call hk2 hf2 hsw hsf)
          clear hk2 hf2 S4
          go_wp2_with fail
          exact ⟨⟨k + 1, _, _, by omega, by go_num, S9.out.k, S9.out.lrow, S9.out.fr, HCN2.out, HST2.out⟩, by simp [intOf]; omega⟩
        · have h6' : decide ((6 : Int) < (dep : Int) + 1) = false := by simp; omega
          obtain ⟨x1, y1, hx1⟩ : ∃ x y, rkL fns d' (dep + 1) ts1 (vs1, c1) = (x, y) := ⟨_, _, rfl⟩
          have hxl := rkL_vars fns d' (dep + 1) ts1 (vs1, c1)
          rw [hx1] at hxl
          simp only at hxl
          obtain ⟨x2, y2, hx2⟩ : ∃ x y, rkL fns d' (dep + 1) [] (x1, y1) = (x, y) := ⟨_, _, rfl⟩
          have hab : x2 = a ∧ y2 = b := by
            have := HAB.out
            rw [rkS, if_pos (by simp [vsK])] at this
            simp only [List.foldl_cons, List.foldl_nil, Nat.not_lt.2 h6, if_false] at this
            unfold rkL at hx1 hx2
            rw [hx1] at this
            simp only [List.foldl_nil, Prod.mk.injEq] at this hx2
            exact ⟨hx2.1.symm.trans this.1, hx2.2.symm.trans this.2⟩
          obtain ⟨rfl, rfl⟩ := hab
          have HX1 := hide1 hx1
          have HX2 := hide1 hx2
          clear hx1 hx2 h6
          rw [HBR.out] at b12
          go_wp2_with fail
          rw [HDP.out]
          refine (HIH.out pb wb B pl ca u.inn (dep + 1) U _ _ _ fns fs u.body ts1 vs1 c1 _ S1.out.k S1.out.brow HAL.out hin hn hfs (by omega) hum2 HUA.out (by omega)).mono ?_
          rintro e w4 ⟨rfl, hk2, hf2⟩
          rw [HX1.out] at hk2 
          have S4 := hide1 (S1.out.call hk2 hf2 hsw hsf)
          clear hk2 hf2 S1 b0 b1 b2 b3 b4 b5 b6 b7 b8 b9 b10 b11 b12 b13 b14 lsb
          have b0 := S4.out.box.cell 0
          have b1 := S4.out.box.cell 1
          have b2 := S4.out.box.cell 2
          have b3 := S4.out.box.cell 3
          have b4 := S4.out.box.cell 4
          have b5 := S4.out.box.cell 5
          have b6 := S4.out.box.cell 6
          have b7 := S4.out.box.cell 7
          have b8 := S4.out.box.cell 8
          have b9 := S4.out.box.cell 9
          have b10 := S4.out.box.cell 10
          have b11 := S4.out.box.cell 11
          have b12 := S4.out.box.cell 12
          have b13 := S4.out.box.cell 13
          have b14 := S4.out.box.cell 14
          simp only [List.getElem?_toArray, List.getElem?_cons_zero, List.getElem?_cons_succ] at b0 b1 b2 b3 b4 b5 b6 b7 b8 b9 b10 b11 b12 b13 b14
          have lsb := blk_lt S4.out.box
          go_wp2_with fail
          rw [HDP.out]
          refine (HIH.out pb wb B pl ca u.inn (dep + 1) U _ _ _ fns fs u.other [] x1 y1 _ S4.out.k S4.out.orow HAL2.out hin hn hfs (by simp only [List.map_nil, List.sum_nil]; omega) hum3 HUA.out (by omega)).mono ?_
          rintro e w6 ⟨rfl, hk2, hf2⟩
          rw [HX2.out] at hk2
          have S9 := hide1 (S4.out.call hk2 hf2 hsw hsf)
          clear hk2 hf2 S4
          go_wp2_with fail
          exact ⟨⟨k + 1, _, _, by omega, by go_num, S9.out.k, S9.out.lrow, S9.out.fr, HCN2.out, HST2.out⟩, by simp [intOf]; omega⟩
      · subst hii
        subst hbl
        subst hs
        have k1 : ((u.kind : Int) == 1) = false := by simp [hk]
        have k2 : ((u.kind : Int) == 12) = true := by simp [hk]
        have HAL := hide1 (hal.mono (fun _ _ r => r.2))
        have HAL2 := hide1 (hal2.mono (fun _ _ r => r.2))
        have HDP : Hid (((dep : Int) + 1) = ((dep + 1 : Nat) : Int)) := by show _ = _; omega
        have HCT := HV1.out
        simp only [cntS, List.map_cons, List.map_nil, List.sum_cons, List.sum_nil] at HCT
        have HBR := hide1 hbr
        have HBR2 := hide1 hbr2
        have HKK := hide1 hk
        clear HFF hal hal2 hk hbr hbr2
        have hum2 := hum.2.1
        have hum3 := hum.2.2
        have h6 := Nat.lt_or_ge 6 (dep + 1)
        rcases h6 with h6 | h6
        · have h6' : decide ((6 : Int) < (dep : Int) + 1) = true := by simp; omega
          obtain ⟨x1, y1, hx1⟩ : ∃ x y, rkL fns d' (dep + 1) ts1 (vs1, (addR 4 p c1)) = (x, y) := ⟨_, _, rfl⟩
          have hxl := rkL_vars fns d' (dep + 1) ts1 (vs1, (addR 4 p c1))
          rw [hx1] at hxl
          simp only at hxl
          obtain ⟨x2, y2, hx2⟩ : ∃ x y, rkL fns d' (dep + 1) ts2 (x1, (addR 4 p2 y1)) = (x, y) := ⟨_, _, rfl⟩
          have hab : x2 = a ∧ y2 = b := by
            have := HAB.out
            rw [rkS, if_pos (by simp [vsK])] at this
            simp only [List.foldl_cons, List.foldl_nil, h6, if_true] at this
            unfold rkL at hx1 hx2
            rw [hx1] at this
            dsimp only at this
            rw [hx2] at this
            simpa using this
          obtain ⟨rfl, rfl⟩ := hab
          have HX1 := hide1 hx1
          have HX2 := hide1 hx2
          clear hx1 hx2 h6
          rw [HBR.out] at b12
          have h2' : decide ((0 : Int) ≤ u.br2) = true := by rw [HBR2.out]; simp
          go_wp2_with fail
          refine (radd_any wb 4 p c1 _ S1.out.k.wr).mono ?_
          rintro e w2 ⟨rfl, hr2, ho2⟩
          have S2 := hide1 (S1.out.call (S1.out.k.add hr2 ho2) (KFr.ofOnly ho2) hsw hsf)
          clear hr2 ho2 S1 b0 b1 b2 b3 b4 b5 b6 b7 b8 b9 b10 b11 b12 b13 b14 lsb
          have b0 := S2.out.box.cell 0
          have b1 := S2.out.box.cell 1
          have b2 := S2.out.box.cell 2
          have b3 := S2.out.box.cell 3
          have b4 := S2.out.box.cell 4
          have b5 := S2.out.box.cell 5
          have b6 := S2.out.box.cell 6
          have b7 := S2.out.box.cell 7
          have b8 := S2.out.box.cell 8
          have b9 := S2.out.box.cell 9
          have b10 := S2.out.box.cell 10
          have b11 := S2.out.box.cell 11
          have b12 := S2.out.box.cell 12
          have b13 := S2.out.box.cell 13
          have b14 := S2.out.box.cell 14
          simp only [List.getElem?_toArray, List.getElem?_cons_zero, List.getElem?_cons_succ] at b0 b1 b2 b3 b4 b5 b6 b7 b8 b9 b10 b11 b12 b13 b14
          have lsb := blk_lt S2.out.box
          go_wp2_with fail
          rw [HDP.out]
          refine (HIH.out pb wb B pl ca u.inn (dep + 1) U _ _ _ fns fs u.body ts1 vs1 (addR 4 p c1) _ S2.out.k S2.out.brow HAL.out hin hn hfs (by omega) hum2 HUA.out (by omega)).mono ?_
          rintro e w4 ⟨rfl, hk2, hf2⟩
          rw [HX1.out] at hk2 
          have S4 := hide1 (S2.out.call hk2 hf2 hsw hsf)
          clear hk2 hf2 S2 b0 b1 b2 b3 b4 b5 b6 b7 b8 b9 b10 b11 b12 b13 b14 lsb
          have b0 := S4.out.box.cell 0
          have b1 := S4.out.box.cell 1
          have b2 := S4.out.box.cell 2
          have b3 := S4.out.box.cell 3
          have b4 := S4.out.box.cell 4
          have b5 := S4.out.box.cell 5
          have b6 := S4.out.box.cell 6
          have b7 := S4.out.box.cell 7
          have b8 := S4.out.box.cell 8
          have b9 := S4.out.box.cell 9
          have b10 := S4.out.box.cell 10
          have b11 := S4.out.box.cell 11
          have b12 := S4.out.box.cell 12
          have b13 := S4.out.box.cell 13
          have b14 := S4.out.box.cell 14
          simp only [List.getElem?_toArray, List.getElem?_cons_zero, List.getElem?_cons_succ] at b0 b1 b2 b3 b4 b5 b6 b7 b8 b9 b10 b11 b12 b13 b14
          have lsb := blk_lt S4.out.box
          rw [HBR2.out] at b13 h2'
          go_wp2_with fail
          refine (radd_any wb 4 p2 y1 _ S4.out.k.wr).mono ?_
          rintro e w5 ⟨rfl, hr2, ho2⟩
          have S5 := hide1 (S4.out.call (S4.out.k.add hr2 ho2) (KFr.ofOnly ho2) hsw hsf)
          clear hr2 ho2 S4 b0 b1 b2 b3 b4 b5 b6 b7 b8 b9 b10 b11 b12 b13 b14 lsb
          have b0 := S5.out.box.cell 0
          have b1 := S5.out.box.cell 1
          have b2 := S5.out.box.cell 2
          have b3 := S5.out.box.cell 3
          have b4 := S5.out.box.cell 4
          have b5 := S5.out.box.cell 5
          have b6 := S5.out.box.cell 6
          have b7 := S5.out.box.cell 7
          have b8 := S5.out.box.cell 8
          have b9 := S5.out.box.cell 9
          have b10 := S5.out.box.cell 10
          have b11 := S5.out.box.cell 11
          have b12 := S5.out.box.cell 12
          have b13 := S5.out.box.cell 13
          have b14 := S5.out.box.cell 14
          simp only [List.getElem?_toArray, List.getElem?_cons_zero, List.getElem?_cons_succ] at b0 b1 b2 b3 b4 b5 b6 b7 b8 b9 b10 b11 b12 b13 b14
          have lsb := blk_lt S5.out.box
          go_wp2_with fail
          rw [HDP.out]
          refine (HIH.out pb wb B pl ca u.inn (dep + 1) U _ _ _ fns fs u.other ts2 x1 (addR 4 p2 y1) _ S5.out.k S5.out.orow HAL2.out hin hn hfs (by omega) hum3 HUA.out (by omega)).mono ?_
          rintro e w6 ⟨rfl, hk2, hf2⟩
          rw [HX2.out] at hk2
          have S9 := hide1 (S5.out.call hk2 hf2 hsw hsf)
          clear hk2 hf2 S5
          go_wp2_with fail
          exact ⟨⟨k + 1, _, _, by omega, by go_num, S9.out.k, S9.out.lrow, S9.out.fr, HCN2.out, HST2.out⟩, by simp [intOf]; omega⟩
        · have h6' : decide ((6 : Int) < (dep : Int) + 1) = false := by simp; omega
          obtain ⟨x1, y1, hx1⟩ : ∃ x y, rkL fns d' (dep + 1) ts1 (vs1, c1) = (x, y) := ⟨_, _, rfl⟩
          have hxl := rkL_vars fns d' (dep + 1) ts1 (vs1, c1)
          rw [hx1] at hxl
          simp only at hxl
          obtain ⟨x2, y2, hx2⟩ : ∃ x y, rkL fns d' (dep + 1) ts2 (x1, y1) = (x, y) := ⟨_, _, rfl⟩
          have hab : x2 = a ∧ y2 = b := by
            have := HAB.out
            rw [rkS, if_pos (by simp [vsK])] at this
            simp only [List.foldl_cons, List.foldl_nil, Nat.not_lt.2 h6, if_false] at this
            unfold rkL at hx1 hx2
            rw [hx1] at this
            dsimp only at this
            rw [hx2] at this
            simpa using this
          obtain ⟨rfl, rfl⟩ := hab
          have HX1 := hide1 hx1
          have HX2 := hide1 hx2
          clear hx1 hx2 h6
          rw [HBR.out] at b12
          go_wp2_with fail
          rw [HDP.out]
          refine (HIH.out pb wb B pl ca u.inn (dep + 1) U _ _ _ fns fs u.body ts1 vs1 c1 _ S1.out.k S1.out.brow HAL.out hin hn hfs (by omega) hum2 HUA.out (by omega)).mono ?_
          rintro e w4 ⟨rfl, hk2, hf2⟩
          rw [HX1.out] at hk2 
          have S4 := hide1 (S1.out.call hk2 hf2 hsw hsf)
          clear hk2 hf2 S1 b0 b1 b2 b3 b4 b5 b6 b7 b8 b9 b10 b11 b12 b13 b14 lsb
          have b0 := S4.out.box.cell 0
          have b1 := S4.out.box.cell 1
          have b2 := S4.out.box.cell 2
          have b3 := S4.out.box.cell 3
          have b4 := S4.out.box.cell 4
          have b5 := S4.out.box.cell 5
          have b6 := S4.out.box.cell 6
          have b7 := S4.out.box.cell 7
          have b8 := S4.out.box.cell 8
          have b9 := S4.out.box.cell 9
          have b10 := S4.out.box.cell 10
          have b11 := S4.out.box.cell 11
          have b12 := S4.out.box.cell 12
          have b13 := S4.out.box.cell 13
          have b14 := S4.out.box.cell 14
          simp only [List.getElem?_toArray, List.getElem?_cons_zero, List.getElem?_cons_succ] at b0 b1 b2 b3 b4 b5 b6 b7 b8 b9 b10 b11 b12 b13 b14
          have lsb := blk_lt S4.out.box
          go_wp2_with fail
          rw [HDP.out]
          refine (HIH.out pb wb B pl ca u.inn (dep + 1) U _ _ _ fns fs u.other ts2 x1 y1 _ S4.out.k S4.out.orow HAL2.out hin hn hfs (by omega) hum3 HUA.out (by omega)).mono ?_
          rintro e w6 ⟨rfl, hk2, hf2⟩
          rw [HX2.out] at hk2
          have S9 := hide1 (S4.out.call hk2 hf2 hsw hsf)
          clear hk2 hf2 S4
          go_wp2_with fail
          exact ⟨⟨k + 1, _, _, by omega, by go_num, S9.out.k, S9.out.lrow, S9.out.fr, HCN2.out, HST2.out⟩, by simp [intOf]; omega⟩
    · have e : k = l.length := by omega
      have hv2 : V = (vs1, c1) := by have := HC.out; rw [e, hlen, List.drop_length] at this; exact this.symm
      subst hv2
      have hkl : decide ((k : Int) < (l.length : Int)) = false := by simp; omega
      clear HC
      go_wp2
      go_end0
      exact ⟨rfl, HK.out, HF.out⟩

theorem look_all : ∀ d, LookOk d := by
  intro d
  induction d with
  | zero => exact look_step 0 (fun d' h => by omega)
  | succ d ih => exact look_step (d + 1) (fun d' h => by have : d' = d := by omega
                                                         subst this; exact ih)

end Go.Proofs.YtgbmakpdjdigmaaGreatDoor

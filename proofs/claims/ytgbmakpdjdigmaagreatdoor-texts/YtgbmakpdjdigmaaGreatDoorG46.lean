/- ChG EqH EqI EqJ EqK EqL EqM: told at each. -/
import Derived.Test.YtgbmakpdjdigmaaGreatDoorG44
import Derived.Test.YtgbmakpdjdigmaaGreatDoorG45
import Derived.Test.YtgbmakpdjdigmaaGreatDoorG43
import Derived.Test.YtgbmakpdjdigmaaGreatDoorG17

/- Plain mathematics and memory words for the reference's Read: what its checks answer, over trees (rallC, finC). No condition. -/
namespace Go.Proofs.YtgbmakpdjdigmaaGreatDoor
open Go.RowKit

theorem lexRun_len (s : ByteArray) : ∀ (f i : Nat) (acc l : List Tk), i ≤ s.size → lexRun s f i acc = .inr l → l.length + i ≤ acc.length + s.size
  | 0, i, acc, l, hi, h => by
    simp only [lexRun, Sum.inr.injEq] at h
    subst h; omega
  | f + 1, i, acc, l, hi, h => by
    simp only [lexRun] at h
    split at h
    · rename_i hlt
      split at h
      · cases h
      · rename_i t j hs
        have ha := lexStep_adv hlt hs
        have := lexRun_len s f j _ l ha.2 h
        have ht : t.toList.length ≤ 1 := by cases t <;> simp
        simp only [List.length_append] at this
        omega
    · simp only [Sum.inr.injEq] at h
      subst h; omega
theorem KFr.row2 {wb B B' : Nat} {fv : Value} {e : TypeId} {size : Nat} {v : Value} {n : Nat} {xs : List Value} {w w' : World} (h : KFr wb B fv w w') (hr : w.ownsRow B' e size v n xs) {c : CS} (hw : WrBlk wb c w) {fns : List RF} (hf : FnRow B w fv fns) (h1 : e ≠ 108) (h2 : e ≠ 116) (h3 : e ≠ 9) : w'.ownsRow B' e size v n xs := by
  refine ownsRow_typed hr h ?_
  rintro k cs fz (q | q | ⟨_, ds, fz', q⟩) hk
  · subst q
    have hw' : w.heap[k]? = _ := hw
    rw [hk] at hw'
    simp only [Option.some.injEq, Obj.cells.injEq] at hw'
    exact h1 hw'.2.1
  · obtain ⟨cs', hrow, _⟩ := hf
    rcases hrow.2 with ⟨q', _⟩ | ⟨g', cap', cur', hv, _, hh, _⟩
    · rw [q'] at q; simp [Value.ownBlock] at q
    · rw [hv] at q
      simp [Value.ownBlock] at q
      subst q
      rw [hk] at hh
      simp only [Option.some.injEq, Obj.cells.injEq] at hh
      exact h2 hh.2.1
  · rw [hk] at q
    simp only [Option.some.injEq, Obj.cells.injEq] at q
    exact h3 q.2.1
/-- A function of the reference and the program's tree of it. -/
structure FR (d : Nat) (fs : List FS) (i : Nat) (f : RF) (t : TF) : Prop where
  name : f.name = toTk t.name
  takes : f.takes = t.params.map toTk
  body : All2 (Flat i d fs) f.body t.sts
  vars : f.vars = []
  blen : f.body.length ≤ 4001
  cnt : t.params.length + (t.sts.map (cntS d)).sum ≤ 4001
structure RHyp (d : Nat) (fns : List RF) (fs : List FS) (tfs : List TF) : Prop where
  len : fns.length = tfs.length
  few : fns.length ≤ 4001
  fsn : fs.length ≤ 4001
  ual : ∀ u, u ∈ fs → u.args.length ≤ 4001 ∧ u.body.length ≤ 4001 ∧ u.other.length ≤ 4001
  fr : ∀ i (h : i < fns.length) (h' : i < tfs.length), FR d fs i fns[i] tfs[i]
  dd : d ≤ 8000
def rparsC (l : List PT) (x : List ByteArray × CS) : List ByteArray × CS := l.foldl (fun x t => (x.1 ++ [t.text], declR x.1 (toTk t) x.2)) x
def rheadC (fns : List RF) (i : Nat) (t : TF) (c : CS) : CS :=
  if fiR (fns.map fun f => f.name.text) t.name.text 0 = i then (if 12 ≤ i then addR 4 t.name.place c else c) else addR 5 t.name.place (if 12 ≤ i then addR 4 t.name.place c else c)
def rfunC (fns : List RF) (d i : Nat) (t : TF) (c : CS) : List ByteArray × CS := rkL fns d 1 t.sts (rparsC t.params ([], rheadC fns i t c))
def rallC (fns : List RF) (d : Nat) : List TF → Nat → List RF × CS → List RF × CS
  | [], _, x => x
  | t :: l, i, x => rallC fns d l (i + 1) (wv x.1 i (rfunC fns d i t x.2).1, (rfunC fns d i t x.2).2)
def finC (fns : List RF) (N : Nat) (c : CS) : CS :=
  if 0 ≤ fiR (fns.map fun f => f.name.text) ⟨#[109, 97, 105, 110]⟩ 0 ∧ ((fns.map fun f => f.takes.length)[(fiR (fns.map fun f => f.name.text) ⟨#[109, 97, 105, 110]⟩ 0).toNat]?).getD 0 = 0 then c else addR 6 N c
theorem rallC_step (fns : List RF) (d : Nat) (tfs : List TF) (i : Nat) (h : i < tfs.length) (x : List RF × CS) : rallC fns d (tfs.drop i) i x = rallC fns d (tfs.drop (i + 1)) (i + 1) (wv x.1 i (rfunC fns d i tfs[i] x.2).1, (rfunC fns d i tfs[i] x.2).2) := by
  rw [List.drop_eq_getElem_cons h]; rfl
theorem rparsC_len : ∀ (l : List PT) (x : List ByteArray × CS), (rparsC l x).1.length = x.1.length + l.length
  | [], x => rfl
  | t :: l, x => by
    have := rparsC_len l (x.1 ++ [t.text], declR x.1 (toTk t) x.2)
    simp only [rparsC, List.foldl_cons, List.length_append, List.length_cons, List.length_nil] at this ⊢
    omega
theorem rpars_step (l : List PT) (k : Nat) (h : k < l.length) (x : List ByteArray × CS) : rparsC (l.drop k) x = rparsC (l.drop (k + 1)) (x.1 ++ [l[k].text], declR x.1 (toTk l[k]) x.2) := by
  unfold rparsC
  rw [List.drop_eq_getElem_cons h]; rfl
/-- The functions as they are while the i-th one is looked at: those ahead have variables, the others none. -/
structure Same (fns0 fns : List RF) (i : Nat) : Prop where
  len : fns.length = fns0.length
  eq : ∀ j (h : j < fns.length) (h' : j < fns0.length), fns[j].name = fns0[j].name ∧ fns[j].takes = fns0[j].takes ∧ fns[j].body = fns0[j].body ∧ fns[j].br = fns0[j].br ∧ (i ≤ j → fns[j].vars = fns0[j].vars)
theorem Same.names {fns0 fns : List RF} {i : Nat} (h : Same fns0 fns i) : fns.map (fun f => f.name.text) = fns0.map (fun f => f.name.text) := by
  apply List.ext_getElem
  · simp [h.len]
  · intro j h1 h2
    simp only [List.getElem_map, (h.eq j (by simpa using h1) (by simpa using h2)).1]
theorem Same.takes {fns0 fns : List RF} {i : Nat} (h : Same fns0 fns i) : fns.map (fun f => f.takes.length) = fns0.map (fun f => f.takes.length) := by
  apply List.ext_getElem
  · simp [h.len]
  · intro j h1 h2
    simp only [List.getElem_map, (h.eq j (by simpa using h1) (by simpa using h2)).2.1]
theorem Same.fun {fns0 fns : List RF} {i : Nat} (h : Same fns0 fns i) (t : Tk) (m : Int) (c : CS) : funR fns t m c = funR fns0 t m c := by
  unfold funR
  rw [h.names, h.takes]
theorem Same.sec {fns0 fns : List RF} {i : Nat} (h : Same fns0 fns i) (vs : List ByteArray) (s : VS) (c : CS) : secV fns vs s c = secV fns0 vs s c := by
  unfold secV
  simp only [h.fun]
theorem Same.rkS {fns0 fns : List RF} {i : Nat} (h : Same fns0 fns i) : ∀ (d dep : Nat) (t : TS) (x : List ByteArray × CS), rkS fns d dep t x = rkS fns0 d dep t x
  | 0, _, _, x => rfl
  | d + 1, dep, .mk s bl, x => by
    have e : (fun (x : List ByteArray × CS) (t : TS) => Go.Proofs.YtgbmakpdjdigmaaGreatDoor.rkS fns d (dep + 1) t x) = fun x t => Go.Proofs.YtgbmakpdjdigmaaGreatDoor.rkS fns0 d (dep + 1) t x := by
      funext x t; exact h.rkS d (dep + 1) t x
    simp only [Go.Proofs.YtgbmakpdjdigmaaGreatDoor.rkS, e, plainR, h.sec]
theorem Same.rkL {fns0 fns : List RF} {i : Nat} (h : Same fns0 fns i) (d dep : Nat) (ts : List TS) (x : List ByteArray × CS) : rkL fns d dep ts x = rkL fns0 d dep ts x := by
  have e : (fun (x : List ByteArray × CS) (t : TS) => Go.Proofs.YtgbmakpdjdigmaaGreatDoor.rkS fns d dep t x) = fun x t => Go.Proofs.YtgbmakpdjdigmaaGreatDoor.rkS fns0 d dep t x := by
    funext x t; exact h.rkS d dep t x
  simp only [Go.Proofs.YtgbmakpdjdigmaaGreatDoor.rkL, e]
theorem Same.next {fns0 fns : List RF} {i : Nat} (h : Same fns0 fns i) (vs : List ByteArray) : Same fns0 (wv fns i vs) (i + 1) := by
  refine ⟨by rw [wv_length, h.len], fun j h1 h2 => ?_⟩
  have h1' : j < fns.length := by rw [wv_length] at h1; exact h1
  have e := h.eq j h1' h2
  simp only [wv, List.getElem_modify]
  split
  · rename_i hij
    exact ⟨e.1, e.2.1, e.2.2.1, e.2.2.2.1, fun q => by omega⟩
  · exact ⟨e.1, e.2.1, e.2.2.1, e.2.2.2.1, fun q => e.2.2.2.2 (by omega)⟩
theorem wv_self {fns : List RF} {i : Nat} (hi : i < fns.length) {vs : List ByteArray} (h : fns[i].vars = vs) : wv fns i vs = fns := by
  subst h
  apply List.ext_getElem
  · simp [wv]
  · intro j h1 h2
    simp only [wv, List.getElem_modify]
    split
    · rename_i hij
      subst hij
      rfl
    · rfl
theorem wv_wv (fns : List RF) (i : Nat) (a b : List ByteArray) : wv (wv fns i a) i b = wv fns i b := by
  apply List.ext_getElem
  · simp [wv]
  · intro j h1 h2
    simp only [wv, List.getElem_modify]
    split <;> rfl
/-- What Read's rounds stand in. -/
structure ReF (pb wb B pl ca g n cap : Nat) (U : Nat → Prop) (toks : List Tk) (fv sv : Value) (fns : List RF) (fs : List FS) (c : CS) (w w' : World) : Prop where
  k : RK pb wb B pl ca U fv sv fns fs c w'
  tk : TokRow g n cap toks w'
  only : Only (fun _ => False) w w'
theorem ReF.call {pb wb B pl ca g n cap : Nat} {U : Nat → Prop} {toks : List Tk} {fv sv : Value} {fns fns' : List RF} {fs : List FS} {c c' : CS} {w w1 w2 : World} (h : ReF pb wb B pl ca g n cap U toks fv sv fns fs c w w1) (hB : w.heap.size ≤ B) (hwb : w.heap.size ≤ wb) (hk : RK pb wb B pl ca U fv sv fns' fs c' w2) (hf : KFr wb B fv w1 w2) : ReF pb wb B pl ca g n cap U toks fv sv fns' fs c' w w2 := by
  refine ⟨hk, ⟨hf.row2 h.tk.1 h.k.wr h.k.fn (by decide) (by decide) (by decide), h.tk.2⟩, ?_⟩
  refine ⟨hf.os.trans h.only.os, hf.tape.trans h.only.tape, hf.output.trans h.only.output, Nat.le_trans h.only.size hf.size, fun k hk' hx => ?_⟩
  have e := h.only.block k hk' hx
  rw [hf.block k (Nat.lt_of_lt_of_le hk' h.only.size) ?_, e]
  rintro (q | q | ⟨q, _⟩)
  · omega
  · obtain ⟨_, hr, _⟩ := h.k.fn
    have := (hr.lt k q).1
    omega
  · omega

end Go.Proofs.YtgbmakpdjdigmaaGreatDoor

/- Plain mathematics: the program's checker and the document's tell the same first fault. No condition. -/
namespace Go.Proofs.YtgbmakpdjdigmaaGreatDoor
open Go.Maps

theorem ChnR.each {A : Type} {R : Nat → Nat → A → Prop} {i j : Nat} {l : List A} (h : ChnR R i j l) : ∀ a, a ∈ l → ∃ p q, R p q a := by
  induction h with
  | nil _ => intro a ha; cases ha
  | cons h _ ih =>
    intro a ha
    rcases List.mem_cons.1 ha with rfl | ha
    · exact ⟨_, _, h⟩
    · exact ih a ha
theorem chn_sum {A : Type} {R : Nat → Nat → A → Prop} {f : A → Nat} (k : ∀ i j a, R i j a → f a + i ≤ j) {i j : Nat} {l : List A} (h : ChnR R i j l) : (l.map f).sum + i ≤ j := by
  induction h with
  | nil h => simpa using h
  | cons h _ ih => have := k _ _ _ h; simp only [List.map_cons, List.sum_cons]; omega
theorem Good.cnt {toks : List PT} : ∀ {d i j : Nat} {t : TS}, Good toks d i j t → cntS d t + i ≤ j
  | 0, _, _, _, h => h.elim
  | d + 1, i, j, .mk s bl, h => by
    obtain ⟨h1, h2, h3⟩ := h
    have C : ∀ a b ts, ChnR (Good toks d) a b ts → (ts.map (cntS d)).sum + a ≤ b := fun a b ts r => chn_sum (fun _ _ _ q => q.cnt) r
    rw [cntS]
    rcases h3 with ⟨rfl, _⟩ | ⟨k, ts, m, rfl, _, c, e, f⟩ | ⟨k, ts, m, k2, ts2, m2, rfl, _, c, e, f, g, h⟩
    · simp; omega
    · have := C _ _ _ e
      simp only [List.map_cons, List.map_nil, List.sum_cons, List.sum_nil]; omega
    · have := C _ _ _ e
      have := C _ _ _ g
      simp only [List.map_cons, List.map_nil, List.sum_cons, List.sum_nil]; omega
theorem Good.tok {toks : List PT} (hn : toks.length ≤ 4001) : ∀ {d i j : Nat} {t : TS}, Good toks d i j t → TOk d t
  | 0, _, _, _, h => h.elim
  | d + 1, i, j, .mk s bl, h => by
    obtain ⟨h1, h2, h3⟩ := h
    have V : ∀ k, VOk (vsK k) := fun k => ⟨Nat.zero_le _, Nat.zero_le _, Nat.zero_le _, by simp [vsK], Nat.zero_le _⟩
    have C : ∀ a b ts, b < j → ChnR (Good toks d) (a + 1) b ts → ts.length ≤ 4000 ∧ ∀ t, t ∈ ts → TOk d t := fun a b ts hb r =>
      ⟨by have := r.le (fun _ _ _ q => q.lt); omega, fun t ht => by obtain ⟨p, q, hh⟩ := r.each t ht; exact hh.tok hn⟩
    rcases h3 with ⟨rfl, hk, hv, _⟩ | ⟨k, ts, m, rfl, hs, c, e, f⟩ | ⟨k, ts, m, k2, ts2, m2, rfl, hs, c, e, f, g, h⟩
    · exact ⟨hv, by omega, by simp, by simp⟩
    · refine ⟨by rcases hs with rfl | rfl <;> exact V _, by rcases hs with rfl | rfl <;> decide, by simp, fun q hq => ?_⟩
      rw [List.mem_singleton.1 hq]
      exact C _ _ _ (by omega) e
    · have := g.le (fun _ _ _ q => q.lt)
      refine ⟨by subst hs; exact V _, by subst hs; decide, by simp, fun q hq => ?_⟩
      simp only [List.mem_cons, List.not_mem_nil, or_false] at hq
      rcases hq with rfl | rfl
      · exact C _ _ _ (by omega) e
      · exact C _ _ _ (by omega) g
theorem Good.trep {toks : List PT} : ∀ {e i j : Nat} {t : TS} {d : Nat} {U : Nat → Prop} {w : World} {c : List Value}, Good toks e i j t → TRep d U w t c → TRep e U w t c
  | 0, _, _, _, _, _, _, _, h, _ => h.elim
  | e + 1, i, j, .mk s bl, 0, U, w, c, _, h => h.elim
  | e + 1, i, j, .mk s bl, d + 1, U, w, c, hg, h => by
    obtain ⟨av, bv, bcs, h1, h2, h3, h4, h5, h6, h7⟩ := h
    refine ⟨av, bv, bcs, h1, h2, h3, h4, h5, h6, fun k hk hk' => ?_⟩
    obtain ⟨sv, css, g1, g2, g3, g4, g5⟩ := h7 k hk hk'
    refine ⟨sv, css, g1, g2, g3, g4, fun m gm gm' => ?_⟩
    have hm : bl[k].2[m] ∈ bl[k].2 := List.getElem_mem _
    obtain ⟨p, q, hh⟩ : ∃ p q, Good toks e p q bl[k].2[m] := by
      obtain ⟨_, _, x3⟩ := hg
      rcases x3 with ⟨rfl, _⟩ | ⟨k1, ts, m1, rfl, _, _, r, _⟩ | ⟨k1, ts, m1, k2, ts2, m2, rfl, _, _, r, _, r2, _⟩
      · simp at hk
      · have e0 : k = 0 := by simp at hk; omega
        subst e0
        exact r.each _ hm
      · have e0 : k = 0 ∨ k = 1 := by simp at hk; omega
        rcases e0 with rfl | rfl
        · exact r.each _ hm
        · exact r2.each _ hm
    exact hh.trep (g5 m gm gm')
theorem Good.flat {toks : List PT} {inn : Nat} : ∀ {e i j : Nat} {t : TS} {d : Nat} {fs : List FS} {k : Nat}, Good toks e i j t → Flat inn d fs k t → Flat inn e fs k t
  | 0, _, _, _, _, _, _, h, _ => h.elim
  | e + 1, i, j, .mk s bl, 0, fs, k, _, h => h.elim
  | e + 1, i, j, .mk s bl, d + 1, fs, k, hg, h => by
    obtain ⟨u, h0, h⟩ := h
    refine ⟨u, h0, ?_⟩
    have each : ∀ p ts, (p, ts) ∈ bl → ∀ t, t ∈ ts → ∃ a b, Good toks e a b t := by
      intro p ts hp t ht
      obtain ⟨_, _, x3⟩ := hg
      rcases x3 with ⟨rfl, _⟩ | ⟨k1, ts1, m1, rfl, _, _, r, _⟩ | ⟨k1, ts1, m1, k2, ts2, m2, rfl, _, _, r, _, r2, _⟩
      · cases hp
      · simp only [List.mem_cons, List.not_mem_nil, or_false, Prod.mk.injEq] at hp
        rw [hp.2] at ht
        exact r.each t ht
      · simp only [List.mem_cons, List.not_mem_nil, or_false, Prod.mk.injEq] at hp
        rcases hp with hp | hp
        · rw [hp.2] at ht; exact r.each t ht
        · rw [hp.2] at ht; exact r2.each t ht
    have M : ∀ (l : List Nat) (m : List TS), (∀ t, t ∈ m → ∃ a b, Good toks e a b t) → All2 (fun j t => k < j ∧ Flat inn d fs j t) l m → All2 (fun j t => k < j ∧ Flat inn e fs j t) l m := by
      intro l m hm q
      induction q with
      | nil => exact .nil
      | cons h _ ih =>
        obtain ⟨a, b, hh⟩ := hm _ (List.mem_cons_self ..)
        exact .cons ⟨h.1, hh.flat h.2⟩ (ih (fun t ht => hm t (List.mem_cons_of_mem _ ht)))
    rcases h with h | ⟨p, ts, h1, h2, h3, h4, h5, h6, h7, h8⟩ | ⟨p, ts, h1, h2, h3, h4, h5, h6, h7, h8⟩ | ⟨p, ts, p2, ts2, h1, h2, h3, h4, h5, h6, h7, h8⟩
    · exact .inl h
    · exact .inr (.inl ⟨p, ts, h1, h2, h3, h4, h5, h6, h7, M _ _ (each p ts (by rw [h1]; simp)) h8⟩)
    · exact .inr (.inr (.inl ⟨p, ts, h1, h2, h3, h4, h5, h6, h7, M _ _ (each p ts (by rw [h1]; simp)) h8⟩))
    · exact .inr (.inr (.inr ⟨p, ts, p2, ts2, h1, h2, h3, h4, h5, h6, M _ _ (each p ts (by rw [h1]; simp)) h7, M _ _ (each p2 ts2 (by rw [h1]; simp)) h8⟩))

/-- The functions' names and parentheses are the same to both. -/
structure Lk (F : DataW Unit) (fns : List TF) (fns0 : List RF) : Prop where
  nm : ∀ s, has F (keyS s) = true ↔ 0 ≤ fiR (fns0.map fun f => f.name.text) s 0
  ar : ∀ s, 0 ≤ fiR (fns0.map fun f => f.name.text) s 0 → parN fns (idxOf F s) = ((fns0.map fun f => f.takes.length)[(fiR (fns0.map fun f => f.name.text) s 0).toNat]?).getD 0
/-- Both have found nothing, and have the same variables; or both have found the same, ahead of lo. -/
def Sim (lo : Nat) (D : DataW Unit) (c : CS) (vs : List ByteArray) (cr : CS) : Prop :=
  c = cr ∧ ((c.fault = 0 ∧ Tidy D ∧ (∀ s, has D (keyS s) = true ↔ s ∈ vs) ∧ size D = vs.length) ∨ (c.fault ≠ 0 ∧ c.place < lo))
theorem Sim.mono {lo lo' : Nat} {D : DataW Unit} {c : CS} {vs : List ByteArray} {cr : CS} (h : Sim lo D c vs cr) (hl : lo ≤ lo') : Sim lo' D c vs cr :=
  ⟨h.1, h.2.imp id (fun q => ⟨q.1, by omega⟩)⟩
theorem Sim.rep {lo p e : Nat} {D : DataW Unit} {c : CS} {vs : List ByteArray} {cr : CS} (h : Sim lo D c vs cr) (hp : lo ≤ p) (he : e ≠ 0) (D' : DataW Unit) (vs' : List ByteArray) : Sim (p + 1) D' (repC e p c) vs' (addR e p cr) := by
  obtain ⟨rfl, h⟩ := h
  rcases h with ⟨h0, _⟩ | ⟨h0, h1⟩
  · have a : repC e p c = ⟨e, p⟩ := by simp [repC, h0]
    have b : addR e p c = ⟨e, p⟩ := by simp [addR, h0]
    rw [a, b]
    exact ⟨rfl, .inr ⟨he, by simp⟩⟩
  · have a : repC e p c = c := by simp [repC, h0]
    have b : addR e p c = c := by unfold addR; rw [if_neg (by omega)]
    rw [a, b]
    exact ⟨rfl, .inr ⟨h0, by omega⟩⟩
theorem Sim.bad {lo p : Nat} {D : DataW Unit} {c : CS} {vs : List ByteArray} {cr : CS} (h : Sim lo D c vs cr) (hp : lo ≤ p) (h0 : c.fault ≠ 0) (e : Nat) : repC e p c = c ∧ addR e p cr = c := by
  obtain ⟨rfl, h⟩ := h
  rcases h with ⟨h0', _⟩ | ⟨_, h1⟩
  · exact absurd h0' h0
  · exact ⟨by simp [repC, h0], by unfold addR; rw [if_neg (by omega)]⟩
theorem Sim.name {lo : Nat} {D : DataW Unit} {c : CS} {vs : List ByteArray} {cr : CS} (h : Sim lo D c vs cr) (t : PT) (hp : lo ≤ t.place) : Sim (t.place + 1) D (nameC D t c) vs (varR vs (toTk t) cr) := by
  by_cases h0 : c.fault = 0
  · rcases h.2 with ⟨_, _, hm, _⟩ | ⟨q, _⟩
    · have hf := (fiR_mem vs t.text 0).1
      unfold nameC varR
      have e : (toTk t).text = t.text := rfl
      rw [e]
      by_cases hq : has D (keyS t.text) = true
      · rw [if_pos hq, if_pos (hf.2 ((hm _).1 hq))]
        exact h.mono (by omega)
      · rw [if_neg hq, if_neg (fun q => hq ((hm _).2 (hf.1 q)))]
        exact h.rep hp (by decide) _ _
    · exact absurd h0 q
  · have b := h.bad hp h0 6
    have h1 : nameC D t c = c := by unfold nameC; split; rfl; exact b.1
    have h2 : varR vs (toTk t) cr = c := by unfold varR; split; exact h.1.symm; exact b.2
    rw [h1, h2]
    rcases h.2 with ⟨q, _⟩ | q
    · exact absurd q h0
    · exact ⟨rfl, .inr ⟨q.1, by omega⟩⟩
theorem Sim.decl {lo : Nat} {D : DataW Unit} {c : CS} {vs : List ByteArray} {cr : CS} (h : Sim lo D c vs cr) (t : PT) (hp : lo ≤ t.place) : Sim (t.place + 1) (declD D t) (declC D t c) (vs ++ [t.text]) (declR vs (toTk t) cr) := by
  by_cases h0 : c.fault = 0
  · obtain ⟨rfl, h2⟩ := h
    rcases h2 with ⟨_, ht, hm, hz⟩ | ⟨q, _⟩
    · have hf := (fiR_mem vs t.text 0).1
      unfold declC declR
      simp only
      rw [hz]
      have e : (toTk t).text = t.text := rfl
      have e2 : (toTk t).pos = t.place := rfl
      rw [e, e2]
      by_cases h12 : 12 ≤ vs.length
      · have a1 : repC 4 t.place c = ⟨4, t.place⟩ := by simp [repC, h0]
        have a2 : addR 4 t.place c = ⟨4, t.place⟩ := by simp [addR, h0]
        rw [if_pos h12, if_pos h12, a1, a2]
        have b1 : repC 5 t.place ⟨4, t.place⟩ = ⟨4, t.place⟩ := by simp [repC]
        have b2 : addR 5 t.place ⟨4, t.place⟩ = ⟨4, t.place⟩ := by simp [addR]
        rw [b1, b2]
        refine ⟨?_, .inr ?_⟩
        · simp
        · simp
      · rw [if_neg h12, if_neg h12]
        by_cases hq : has D (keyS t.text) = true
        · rw [if_pos hq, if_pos (hf.2 ((hm _).1 hq))]
          exact Sim.rep (lo := lo) (D := D) (vs := vs) ⟨rfl, .inl ⟨h0, ht, hm, hz⟩⟩ hp (by decide) _ _
        · rw [if_neg hq, if_neg (fun q => hq ((hm _).2 (hf.1 q)))]
          refine ⟨rfl, .inl ⟨h0, ht.put (keyS_key _) _, fun s => ?_, ?_⟩⟩
          · unfold declD
            by_cases he : keyS s = keyS t.text
            · have := keyS_inj he
              subst this
              rw [has_put_same ht.isMap (keyS_key _)]
              simp
            · rw [has_put_other he, hm s]
              have : s ≠ t.text := fun q => he (by rw [q])
              simp [this]
          · unfold declD
            rw [size_put ht, if_neg hq, hz]
            simp
    · exact absurd h0 q
  · have b4 := h.bad hp h0 4
    have b5 := h.bad hp h0 5
    have h1 : declC D t c = c := by unfold declC; simp only; split <;> split <;> simp [b4.1, b5.1]
    have h2 : declR vs (toTk t) cr = c := by
      have e := h.1
      subst e
      unfold declR
      simp only [show (toTk t).pos = t.place from rfl]
      split <;> split <;> simp [b4.2, b5.2]
    rw [h1, h2]
    rcases h.2 with ⟨q, _⟩ | q
    · exact absurd q h0
    · exact ⟨rfl, .inr ⟨q.1, by omega⟩⟩
theorem Sim.fun {F : DataW Unit} {fns : List TF} {fns0 : List RF} (L : Lk F fns fns0) {lo : Nat} {D : DataW Unit} {c : CS} {vs : List ByteArray} {cr : CS} (h : Sim lo D c vs cr) (t : PT) (hp : lo ≤ t.place) : Sim (t.place + 1) D (nameC F t c) vs (funR fns0 (toTk t) (-1) cr) := by
  have hm := L.nm t.text
  unfold nameC funR
  rw [show (toTk t).text = t.text from rfl, show (toTk t).pos = t.place from rfl]
  by_cases hq : has F (keyS t.text) = true
  · rw [if_pos hq, if_pos (hm.1 hq), if_neg (by omega)]
    exact h.mono (by omega)
  · rw [if_neg hq, if_neg (fun q => hq (hm.2 q))]
    exact h.rep hp (by decide) _ _
theorem Sim.called {F : DataW Unit} {fns : List TF} {fns0 : List RF} (L : Lk F fns fns0) {lo : Nat} {D : DataW Unit} {c : CS} {vs : List ByteArray} {cr : CS} (h : Sim lo D c vs cr) (t : PT) (a : Nat) (hp : lo ≤ t.place) : Sim (t.place + 1) D (calledC F fns t a c) vs (funR fns0 (toTk t) a cr) := by
  have hm := L.nm t.text
  unfold calledC funR
  rw [show (toTk t).text = t.text from rfl, show (toTk t).pos = t.place from rfl]
  by_cases hq : has F (keyS t.text) = true
  · rw [if_pos hq, if_pos (hm.1 hq), L.ar _ (hm.1 hq)]
    by_cases ha : ((fns0.map fun f => f.takes.length)[(fiR (fns0.map fun f => f.name.text) t.text 0).toNat]?).getD 0 = a
    · rw [if_pos ha, if_neg (by omega)]
      exact h.mono (by omega)
    · rw [if_neg ha, if_pos ⟨by omega, by omega⟩]
      exact h.rep hp (by decide) _ _
  · rw [if_neg hq, if_neg (fun q => hq (hm.2 q))]
    exact h.rep hp (by decide) _ _

end Go.Proofs.YtgbmakpdjdigmaaGreatDoor

/- Plain mathematics: both checkers alike at statements and functions: the same first fault of a parsed program. No condition. -/
namespace Go.Proofs.YtgbmakpdjdigmaaGreatDoor
open Go.Maps

section
variable {N : Nat} {toks : List PT} (H : TksOk N toks)
include H
theorem place_lt {p q : Nat} (h : p < q) (hq : q < toks.length) : (ptAt toks p).place < (ptAt toks q).place := by
  have := List.pairwise_iff_getElem.1 H.asc p q (by omega) hq h
  unfold ptAt
  rw [List.getElem?_eq_getElem (by omega), List.getElem?_eq_getElem hq]
  exact this
theorem place_le {p q : Nat} (h : p ≤ q) (hq : q < toks.length) : (ptAt toks p).place ≤ (ptAt toks q).place := by
  rcases Nat.lt_or_ge p q with l | l
  · exact Nat.le_of_lt (place_lt H l hq)
  · have : p = q := by omega
    rw [this]; exact Nat.le_refl _
/-- At a token's place. -/
theorem Sim.to {i p j : Nat} {D D' : DataW Unit} {c c' : CS} {vs vs' : List ByteArray} {cr cr' : CS} (h : Sim (ptAt toks i).place D c vs cr) (step : ∀ lo, Sim lo D c vs cr → lo ≤ (ptAt toks p).place → Sim ((ptAt toks p).place + 1) D' c' vs' cr') (hi : i ≤ p) (hp : p + 1 ≤ j) (hj : j < toks.length) : Sim (ptAt toks j).place D' c' vs' cr' :=
  (step _ h (place_le H hi (by omega))).mono (place_lt H (by omega) hj)
theorem Sim.args {D : DataW Unit} {vs : List ByteArray} : ∀ (ps : List Nat) {i j : Nat} {c cr : CS}, Sim (ptAt toks i).place D c vs cr → Asc i j ps → j < toks.length → Sim (ptAt toks j).place D (namesC D (ps.map (ptAt toks)) c) vs (((ps.map (ptAt toks)).map toTk).foldl (fun c t => varR vs t c) cr)
  | [], i, j, c, cr, h, ha, hj => h.mono (place_le H ha hj)
  | p :: ps, i, j, c, cr, h, ha, hj => by
    have hl := ha.2.le
    have h1 := h.to H (p := p) (j := p + 1) (fun lo q hp => q.name (ptAt toks p) hp) ha.1 (Nat.le_refl _) (by omega)
    exact Sim.args ps h1 ha.2 hj
variable {F : DataW Unit} {fns : List TF} {fns0 : List RF} (L : Lk F fns fns0)
include L
theorem Sim.plain {s : VS} {ps : List Nat} {i j : Nat} (hk : s.kind ≤ 10) (hargs : s.kind ≠ 7 → s.kind ≠ 8 → s.args = []) (hps : nmL s = ps.map (ptAt toks)) (ha : Asc i j ps) (hj : j < toks.length) {D : DataW Unit} {c : CS} {vs : List ByteArray} {cr : CS} (h : Sim (ptAt toks i).place D c vs cr) :
    Sim (ptAt toks j).place (plainC F fns s (D, c)).1 (plainC F fns s (D, c)).2 (plainR fns0 s (vs, cr)).1 (plainR fns0 s (vs, cr)).2 := by
  obtain ⟨kind, tg, sr, field, args⟩ := s
  simp only at hk hargs hps ⊢
  have one : ∀ t : PT, [t] = ps.map (ptAt toks) → ∃ p, ps = [p] ∧ t = ptAt toks p := by
    intro t e
    rcases ps with _ | ⟨p, _ | ⟨q, r⟩⟩
    · simp at e
    · simp only [List.map_cons, List.map_nil, List.cons.injEq, and_true] at e; exact ⟨p, rfl, e⟩
    · simp at e
  have two : ∀ (t u : PT) (l : List PT), t :: u :: l = ps.map (ptAt toks) → ∃ p q r, ps = p :: q :: r ∧ t = ptAt toks p ∧ u = ptAt toks q ∧ l = r.map (ptAt toks) := by
    intro t u l e
    rcases ps with _ | ⟨p, _ | ⟨q, r⟩⟩
    · simp at e
    · simp at e
    · simp only [List.map_cons, List.cons.injEq] at e; exact ⟨p, q, r, rfl, e.1, e.2.1, e.2.2⟩
  unfold nmL at hps
  simp only at hps
  have T2 : ∀ (t u : PT), (kind ≠ 0 ∧ kind ≠ 1 ∧ kind ≠ 10 ∧ kind ≠ 7 ∧ kind ≠ 8) → ∃ p q, ps = [p, q] ∧ tg = ptAt toks p ∧ sr = ptAt toks q := by
    intro t u hh
    rw [if_neg (by omega), if_neg (by omega), if_neg (by omega)] at hps
    obtain ⟨p, q, r, e1, e2, e3, e4⟩ := two tg sr [] hps
    have : r = [] := by cases r with | nil => rfl | cons a b => simp at e4
    subst this
    exact ⟨p, q, e1, e2, e3⟩
  have rest : (kind ≠ 0 ∧ kind ≠ 1 ∧ kind ≠ 10 ∧ kind ≠ 7 ∧ kind ≠ 8 ∧ kind ≠ 4) → Sim (ptAt toks j).place D (nameC D sr (nameC D tg c)) (plainR fns0 ⟨kind, tg, sr, field, args⟩ (vs, cr)).1 (plainR fns0 ⟨kind, tg, sr, field, args⟩ (vs, cr)).2 := by
    intro hh
    obtain ⟨p, q, e1, e2, e3⟩ := T2 tg sr ⟨hh.1, hh.2.1, hh.2.2.1, hh.2.2.2.1, hh.2.2.2.2.1⟩
    subst e1
    have hz := hargs (by omega) (by omega)
    subst hz
    have a1 := ha.1
    have a2 := ha.2.1
    have a3 : q + 1 ≤ j := ha.2.2
    have s1 := h.to H (p := p) (j := p + 1) (fun lo z hp => z.name (ptAt toks p) hp) a1 (Nat.le_refl _) (by omega)
    have s2 := s1.to H (p := q) (j := j) (fun lo z hp => z.name (ptAt toks q) hp) a2 a3 hj
    unfold plainR secV
    simp only
    rw [if_neg (by omega), if_neg (by omega), if_neg (by omega), if_neg (by omega), if_neg (by omega)]
    rw [e2, e3]
    exact s2
  rcases kind with _ | _ | _ | _ | _ | _ | _ | _ | _ | _ | _ | kind
  · obtain ⟨p, rfl, e⟩ := one tg (by simpa using hps)
    have a3 : p + 1 ≤ j := ha.2
    simp only [plainC, plainR, if_true]
    rw [e]
    exact h.to H (p := p) (fun lo z hp => z.decl (ptAt toks p) hp) ha.1 a3 hj
  · obtain ⟨p, rfl, e⟩ := one tg (by simpa using hps)
    have a3 : p + 1 ≤ j := ha.2
    simp only [plainC, plainR, secV]
    rw [e]
    exact h.to H (p := p) (fun lo z hp => z.name (ptAt toks p) hp) ha.1 a3 hj
  · exact rest (by omega)
  · exact rest (by omega)
  · obtain ⟨p, q, e1, e2, e3⟩ := T2 tg sr (by omega)
    subst e1
    have hz := hargs (by omega) (by omega)
    subst hz
    have a3 : q + 1 ≤ j := ha.2.2
    have s1 := h.to H (p := p) (j := p + 1) (fun lo z hp => z.name (ptAt toks p) hp) ha.1 (Nat.le_refl _) (by have := ha.2.1; omega)
    have s2 := s1.to H (p := q) (j := j) (fun lo z hp => z.fun L (ptAt toks q) hp) ha.2.1 a3 hj
    simp only [plainC, plainR, secV]
    rw [e2, e3]
    exact s2
  · exact rest (by omega)
  · exact rest (by omega)
  · rw [if_neg (by omega), if_neg (by omega), if_pos (by omega)] at hps
    obtain ⟨p, q, r, e1, e2, e3, e4⟩ := two tg sr args hps
    subst e1
    have hl := ha.2.2.le
    have s1 := h.to H (p := p) (j := p + 1) (fun lo z hp => z.name (ptAt toks p) hp) ha.1 (Nat.le_refl _) (by have := ha.2.1; omega)
    have s2 := s1.to H (p := q) (j := q + 1) (fun lo z hp => z.called L (ptAt toks q) args.length hp) ha.2.1 (Nat.le_refl _) (by omega)
    have s3 := Sim.args H r s2 ha.2.2 hj
    simp only [plainC, plainR, secV]
    rw [e2, e3, ← e4] at *
    rw [← e4] at s3
    exact s3
  · rw [if_neg (by omega), if_neg (by omega), if_pos (by omega)] at hps
    obtain ⟨p, q, r, e1, e2, e3, e4⟩ := two tg sr args hps
    subst e1
    have hl := ha.2.2.le
    have s1 := h.to H (p := p) (j := p + 1) (fun lo z hp => z.name (ptAt toks p) hp) ha.1 (Nat.le_refl _) (by have := ha.2.1; omega)
    have s2 := s1.to H (p := q) (j := q + 1) (fun lo z hp => z.name (ptAt toks q) hp) ha.2.1 (Nat.le_refl _) (by omega)
    have s3 := Sim.args H r s2 ha.2.2 hj
    rw [← e4, ← e2, ← e3] at s3
    exact s3
  · exact rest (by omega)
  · obtain ⟨p, rfl, e⟩ := one sr (by simpa using hps)
    have a3 : p + 1 ≤ j := ha.2
    have s1 := h.to H (p := p) (fun lo z hp => z.name (ptAt toks p) hp) ha.1 a3 hj
    rw [← e] at s1
    exact s1
  · omega
/-- Statements, at every tree. -/
theorem Sim.stmt : ∀ {d i j : Nat} {t : TS}, Good toks d i j t → ∀ (dep : Nat) (x : DataW Unit × CS) (y : List ByteArray × CS), Sim (ptAt toks i).place x.1 x.2 y.1 y.2 → Sim (ptAt toks j).place (ckS F fns d dep t x).1 (ckS F fns d dep t x).2 (rkS fns0 d dep t y).1 (rkS fns0 d dep t y).2
  | 0, _, _, _, h => h.elim
  | d + 1, i, j, .mk s bl, hg => by
    intro dep x y h
    obtain ⟨h1, h2, h3⟩ := hg
    have C : ∀ (a b : Nat) (ts : List TS), b < toks.length → ChnR (Good toks d) a b ts → ∀ (x : DataW Unit × CS) (y : List ByteArray × CS), Sim (ptAt toks a).place x.1 x.2 y.1 y.2 → Sim (ptAt toks b).place (ts.foldl (fun x t => ckS F fns d (dep + 1) t x) x).1 (ts.foldl (fun x t => ckS F fns d (dep + 1) t x) x).2 (ts.foldl (fun x t => rkS fns0 d (dep + 1) t x) y).1 (ts.foldl (fun x t => rkS fns0 d (dep + 1) t x) y).2 := by
      intro a b ts hb r
      induction r with
      | nil h => intro x y hs; exact hs.mono (place_le H h hb)
      | cons h _ ih => intro x y hs; exact ih hb _ _ (Sim.stmt h (dep + 1) x y hs)
    have Bk : ∀ (k : Nat) (x : DataW Unit × CS) (y : List ByteArray × CS) (i : Nat), i ≤ k → k + 1 < toks.length → Sim (ptAt toks i).place x.1 x.2 y.1 y.2 → Sim (ptAt toks (k + 1)).place x.1 (if 6 < dep + 1 then repC 4 (ptAt toks k).place x.2 else x.2) y.1 (if 6 < dep + 1 then addR 4 (ptAt toks k).place y.2 else y.2) := by
      intro k x y i hi hk hs
      split
      · exact hs.to H (p := k) (fun lo z hp => z.rep hp (by decide) _ _) hi (Nat.le_refl _) hk
      · exact hs.mono (place_le H (by omega) hk)
    rcases h3 with ⟨rfl, hk, _, ha, ps, hp, hasc⟩ | ⟨k, ts, m, rfl, hs, hik, r, hm⟩ | ⟨k, ts, m, k2, ts2, m2, rfl, hs, hik, r, hm, r2, hm2⟩
    · rw [ckS, rkS, if_neg (by omega), if_neg (by omega)]
      exact Sim.plain H L hk ha hp hasc h2 h
    · have hl := r.le (fun _ _ _ q => q.lt)
      have hkk : s.kind = 11 ∨ s.kind = 12 := by rcases hs with rfl | rfl <;> simp [vsK]
      rw [ckS, rkS, if_pos hkk, if_pos hkk]
      simp only [List.foldl_cons, List.foldl_nil]
      have b1 := Bk k x y i (by omega) (by omega) h
      have c1 := C (k + 1) m ts (by omega) r (x.1, if 6 < dep + 1 then repC 4 (ptAt toks k).place x.2 else x.2) (y.1, if 6 < dep + 1 then addR 4 (ptAt toks k).place y.2 else y.2) b1
      exact c1.mono (place_le H (by omega) h2)
    · have hl := r.le (fun _ _ _ q => q.lt)
      have hl2 := r2.le (fun _ _ _ q => q.lt)
      have hkk : s.kind = 11 ∨ s.kind = 12 := by rw [hs]; simp [vsK]
      rw [ckS, rkS, if_pos hkk, if_pos hkk]
      simp only [List.foldl_cons, List.foldl_nil]
      have b1 := Bk k x y i (by omega) (by omega) h
      have c1 := C (k + 1) m ts (by omega) r (x.1, if 6 < dep + 1 then repC 4 (ptAt toks k).place x.2 else x.2) (y.1, if 6 < dep + 1 then addR 4 (ptAt toks k).place y.2 else y.2) b1
      have b2 := Bk k2 _ _ m (by omega) (by omega) c1
      have c2 := C (k2 + 1) m2 ts2 (by omega) r2 (_, _) (_, _) b2
      exact c2.mono (place_le H (by omega) h2)
end
end Go.Proofs.YtgbmakpdjdigmaaGreatDoor

/- Plain mathematics: functions: parser and reader alike; what a parsed program keeps to. No condition. -/
namespace Go.Proofs.YtgbmakpdjdigmaaGreatDoor
open Go.Maps

/-- Rows of a statement are no longer than n. -/
def UL (n : Nat) (fs : List FS) : Prop := ∀ u, u ∈ fs → u.args.length ≤ n ∧ u.body.length ≤ n ∧ u.other.length ≤ n
theorem UL.snoc {n : Nat} {fs : List FS} {u : FS} (h : UL n fs) (hu : u.args.length ≤ n ∧ u.body.length ≤ n ∧ u.other.length ≤ n) : UL n (fs ++ [u]) := by
  intro v hv
  rcases List.mem_append.1 hv with q | q
  · exact h v q
  · rw [List.mem_singleton.1 q]; exact hu
theorem UL.set {n : Nat} {fs : List FS} {u : FS} (h : UL n fs) (i : Nat) (hu : u.args.length ≤ n ∧ u.body.length ≤ n ∧ u.other.length ≤ n) : UL n (fs.set i u) := by
  intro v hv
  rcases List.mem_or_eq_of_mem_set hv with q | q
  · exact h v q
  · rw [q]; exact hu
theorem lstR_len (toks : List Tk) : ∀ (f cur : Nat) (bad : Option Nat) (acc : List Tk), (lstR toks f cur bad acc).1.length ≤ acc.length + f
  | 0, cur, bad, acc => by unfold lstR; simp
  | f + 1, cur, bad, acc => by
    unfold lstR
    split
    · have := lstR_len toks f (cur + 1) bad (acc ++ [tokAt toks cur])
      simp only [List.length_append, List.length_singleton] at this
      omega
    · simp
theorem listS_len (toks : List Tk) (x : St) : (listS toks x).1.length ≤ toks.length := by
  have := lstR_len toks toks.length x.cur x.bad []
  unfold listS listR
  simpa using this
theorem valS_len (toks : List Tk) (x : St) (s : FS) (h : s.args.length ≤ toks.length) : (valS toks x s).1.args.length ≤ toks.length := by
  unfold valS
  split
  · exact h
  · split
    · simp only
      split <;> exact h
    · split
      · exact h
      · split
        · exact h
        · split
          · exact listS_len _ _
          · simp only
            split
            · exact listS_len _ _
            · exact h
theorem plainS_len (toks : List Tk) (inn : Nat) (x : St) : (plainS toks inn x).1.args.length ≤ toks.length ∧ (plainS toks inn x).1.body.length ≤ toks.length ∧ (plainS toks inn x).1.other.length ≤ toks.length := by
  unfold plainS
  split
  · simp [zFS]
  · split
    · simp [zFS]
    · split
      · simp [zFS]
      · simp only
        have b := valS_body toks (eatS toks [61] (getS toks 1 x).2) { zFS inn (-1) with p := (getS toks 1 x).1 }
        refine ⟨valS_len _ _ _ (by simp [zFS]), by rw [b.1]; simp [zFS], by rw [b.2]; simp [zFS]⟩
theorem both_len {toks : List Tk} {n : Nat} (hl : toks.length = n) (hz : (tokAt toks (n - 1)).sort = 0) : ∀ f : Nat,
    (∀ (inn : Nat) (x : St) (fs : List FS) (out : List Nat), Inv n x fs.length → UL n fs → UL n (rStmts toks f inn x fs out).2.2 ∧ (rStmts toks f inn x fs out).1.length ≤ out.length + ((rStmts toks f inn x fs out).2.1.cur - x.cur) + 1) ∧
    (∀ (inn : Nat) (x : St) (fs : List FS), Inv n x fs.length → x.bad = none → UL n fs → UL n (rStmt toks f inn x fs).2.2) := by
  have E := eatS_goes toks
  have C : ∀ (L : List UInt8) (x : St), x.cur < n → (eatS toks L x).cur < n := fun L x h => eatS_cur rfl hz h
  have Z : (zFS 0 0).args.length ≤ n ∧ (zFS 0 0).body.length ≤ n ∧ (zFS 0 0).other.length ≤ n := by simp [zFS]
  intro f
  induction f with
  | zero =>
    refine ⟨fun inn x fs out _ h => ?_, fun inn x fs _ _ h => ?_⟩
    · rw [rStmts]; exact ⟨h, by simp only; omega⟩
    · rw [rStmt]; exact h
  | succ f ih =>
    refine ⟨fun inn x fs out hi h => ?_, fun inn x fs hi hb h => ?_⟩
    · rw [rStmts]
      split
      · exact ⟨h, by simp only; omega⟩
      · rename_i hc
        have hb : x.bad = none := by
          cases hx : x.bad with
          | none => rfl
          | some b => exact absurd (.inl (by simp [hx])) hc
        have u1 := ih.2 inn x fs hi hb h
        obtain ⟨a1, a2, a3, a4⟩ := (both_prog hz f).2 inn x fs hi hb
        obtain ⟨b1, b2, b3⟩ := (both_prog hz f).1 inn _ _ (out ++ [(rStmt toks f inn x fs).1]) a1
        obtain ⟨c1, c2⟩ := ih.1 inn (rStmt toks f inn x fs).2.1 (rStmt toks f inn x fs).2.2 (out ++ [(rStmt toks f inn x fs).1]) a1 u1
        refine ⟨c1, ?_⟩
        simp only [List.length_append, List.length_singleton] at c2
        by_cases hf : f = 0
        · subst hf
          rw [rStmts]
          simp only [List.length_append, List.length_singleton]
          omega
        · cases hr : (rStmt toks f inn x fs).2.1.bad with
          | none => have := a4 hf hr; omega
          | some b =>
            rw [rbad_stmts _ _ _ _ _ hr]
            simp only [List.length_append, List.length_singleton]
            omega
    · rw [rStmt]
      split
      · simp only
        have G3 := ((E (wordOf (tokAt toks x.cur)) x).trans (E [63] _)).trans (E [123] (eatS toks [63] (eatS toks (wordOf (tokAt toks x.cur)) x)))
        have c2 := C [63] _ (C (wordOf (tokAt toks x.cur)) x hi.1)
        have c3 := C [123] _ c2
        generalize eatS toks [63] (eatS toks (wordOf (tokAt toks x.cur)) x) = x2 at *
        generalize eatS toks [123] x2 = xb at *
        have I0 : Inv n xb (fs ++ [zFS 0 0]).length := by
          obtain ⟨g1, g2, g3, g4⟩ := G3
          obtain ⟨h1, h2, h3, h4, h5⟩ := hi
          have h6 := h5 hb
          refine ⟨c3, by omega, by omega, by simp; omega, fun e => ?_⟩
          have := g4 e
          simp only [List.length_append, List.length_cons, List.length_nil]
          omega
        obtain ⟨a1, a2⟩ := ih.1 inn xb (fs ++ [zFS 0 0]) [] I0 (h.snoc Z)
        obtain ⟨p1, p2, p3⟩ := (both_prog hz f).1 inn xb (fs ++ [zFS 0 0]) [] I0
        generalize rStmts toks f inn xb (fs ++ [zFS 0 0]) [] = r at *
        have hr : r.1.length ≤ n := by have := p1.1; simp only [List.length_nil] at a2; omega
        have i3 := p1.goes0 (E [125] r.2.1) (C [125] _ p1.1)
        split
        · split
          · have i5 := i3.goes0 ((E elseL _).trans (E [123] _)) (C [123] _ (C elseL _ i3.1))
            obtain ⟨b1, b2⟩ := ih.1 inn (eatS toks [123] (eatS toks elseL (eatS toks [125] r.2.1))) r.2.2 [] i5 a1
            obtain ⟨q1, q2, q3⟩ := (both_prog hz f).1 inn (eatS toks [123] (eatS toks elseL (eatS toks [125] r.2.1))) r.2.2 [] i5
            refine b1.set _ ⟨by simp [zFS], hr, ?_⟩
            have := q1.1
            simp only [List.length_nil] at b2
            simp only
            omega
          · exact a1.set _ ⟨by simp [zFS], hr, by simp [zFS]⟩
        · exact a1.set _ ⟨by simp [zFS], hr, by simp [zFS]⟩
      · simp only
        have q := plainS_len toks inn x
        rw [hl] at q
        exact (h.snoc Z).set _ q

/-- The function's tokens are those from i on, up to j. -/
structure GoodF (toks : List PT) (d i j : Nat) (t : TF) : Prop where
  w : ∃ kn ps kb m, i ≤ kn ∧ t.name = ptAt toks kn ∧ t.params = ps.map (ptAt toks) ∧ Asc (kn + 1) kb ps ∧ t.place = (ptAt toks kb).place ∧ ChnR (Good toks d) (kb + 1) m t.sts ∧ m < j
  lt : i < j
  top : j < toks.length
/-- A function of the reader and of the parser. -/
structure FRel (d : Nat) (fs : List FS) (i : Nat) (f : RF) (t : TF) : Prop where
  name : f.name = toTk t.name
  takes : f.takes = t.params.map toTk
  body : All2 (Flat i d fs) f.body t.sts
  vars : f.vars = []
section
variable {N : Nat} {toks : List PT} (H : TksOk N toks) (HD : DigOk toks) (hN : N ≤ 4000) (hn : toks.length ≤ 4001)
include H
include hN hn in
theorem fn_good {x : PS} (hx : x.next < toks.length) (h : (fnP toks toks.length x).2.failed = false) : x.failed = false ∧ GoodF toks (2 * toks.length + 1) x.next (fnP toks toks.length x).2.next (fnP toks toks.length x).1 := by
  have T := fun (k : Nat) (hk : k ≠ 0) {x : PS} (h : (takeP toks toks.length k x).failed = false) => take_next hk h
  have g0 := fnP_goes H.end_ hx
  have g1 := takeP_goes (n := toks.length) H.end_ 3 hx
  have g2 := g1.trans (takeP_goes H.end_ 1 g1.2)
  have g3 := g2.trans (namesP_goes H.end_ g2.2)
  have g4 := g3.trans (takeP_goes H.end_ 12 g3.2)
  unfold fnP at h g0 ⊢
  simp only at h g0 ⊢
  have t5 := T 13 (by decide) h
  obtain ⟨s4, ts, s5, s6⟩ := (both_good H hN hn (2 * toks.length + 1)).1 _ [] g4.2 (by omega) t5.1
  have t4 := T 12 (by decide) s4
  obtain ⟨n1, ps, n2, n3, n4⟩ := names_good t4.1
  have t2 := T 1 (by decide) n1
  have t1 := T 3 (by decide) t2.1
  simp only [List.nil_append] at s5
  rw [t4.2.1] at s6
  have l1 := s6.le (fun _ _ _ q => q.lt)
  have l2 := n3.le
  refine ⟨t1.1, ⟨⟨(takeP toks toks.length 3 x).next, ps, (namesP toks toks.length (takeP toks toks.length 1 (takeP toks toks.length 3 x))).2.next, _, by omega, t2.2.2.1, n2, ?_, by simp only; rw [t4.2.2.1], by rw [s5]; exact s6, by omega⟩, by omega, g0.2⟩⟩
  exact n3.left (by omega)
include HD
theorem al_fn {x : PS} {y : St} (k : Nat) (fs : List FS) (A : Al toks.length x y) : Al toks.length (fnP toks toks.length x).2 (fnR (toks.map toTk) (2 * toks.length) k y fs).2.1 ∧
    ((fnR (toks.map toTk) (2 * toks.length) k y fs).2.1.bad = none → FRel (2 * toks.length + 1) (fnR (toks.map toTk) (2 * toks.length) k y fs).2.2 k (fnR (toks.map toTk) (2 * toks.length) k y fs).1 (fnP toks toks.length x).1 ∧ Pre fs (fnR (toks.map toTk) (2 * toks.length) k y fs).2.2) := by
  have E := fun (k : Nat) (h3 : 3 ≤ k) (h20 : k ≤ 20) {x : PS} {y : St} (h : Al toks.length x y) => al_eat H h3 h20 h
  have a1 := E 3 (by decide) (by decide) A
  obtain ⟨a2, e2⟩ := al_get H (k := 1) (so := 1) (by decide) a1
  have a3 := E 10 (by decide) (by decide) a2
  obtain ⟨a4, e4⟩ := al_list H a3
  simp only [litK, Nat.reduceEqDiff, if_true, if_false] at a1 a2 e2 a3 a4 e4
  have a4' : Al toks.length (namesP toks toks.length (takeP toks toks.length 1 (takeP toks toks.length 3 x))).2 (listS (toks.map toTk) (eatS (toks.map toTk) [40] (getS (toks.map toTk) 1 (eatS (toks.map toTk) [102, 110] y)).2)).2 := a4
  obtain ⟨b1, b2⟩ := al_block H (al_both H HD (2 * toks.length + 1)).1 (f2 := 2 * toks.length) k fs a4' (fun _ => by omega)
  unfold fnP fnR
  simp only
  refine ⟨b1, fun e => ?_⟩
  obtain ⟨c1, c2, c3, c4⟩ := b2 e
  exact ⟨⟨e2, e4, c1.mono (fun _ _ r => r.2), rfl⟩, c2⟩
end
end Go.Proofs.YtgbmakpdjdigmaaGreatDoor

/- Plain mathematics: whole programs: parser and reader, both checkers. No condition. -/
namespace Go.Proofs.YtgbmakpdjdigmaaGreatDoor
open Go.Maps

section
variable {N : Nat} {toks : List PT} (H : TksOk N toks) (HD : DigOk toks) (hN : N ≤ 4000) (hn : toks.length ≤ 4001)
include H HD
/-- Functions, as far as they are read. -/
structure FsRel (fs : List FS) (rf : List RF) (tf : List TF) : Prop where
  len : rf.length = tf.length
  each : ∀ i (h : i < rf.length) (h' : i < tf.length), FRel (2 * toks.length + 1) fs i rf[i] tf[i]
omit H HD in
theorem FsRel.snoc {fs fs' : List FS} {rf : List RF} {tf : List TF} {f : RF} {t : TF} (h : FsRel (toks := toks) fs rf tf) (hp : Pre fs fs') (r : FRel (2 * toks.length + 1) fs' rf.length f t) : FsRel (toks := toks) fs' (rf ++ [f]) (tf ++ [t]) := by
  have hl := h.len
  refine ⟨by simp [hl], fun i h1 h2 => ?_⟩
  by_cases hi : i < rf.length
  · rw [List.getElem_append_left hi, List.getElem_append_left (by omega)]
    have q := h.each i hi (by omega)
    exact ⟨q.name, q.takes, q.body.mono (fun _ _ z => z.pre hp), q.vars⟩
  · have e : i = rf.length := by simp at h1; omega
    subst e
    rw [List.getElem_append_right (Nat.le_refl _), List.getElem_append_right (by omega)]
    simp only [Nat.sub_self, hl, List.getElem_cons_zero]
    rw [← hl]; exact r
theorem al_fns : ∀ (m1 m2 : Nat) (x : PS) (y : St) (fs : List FS) (acc : List TF) (racc : List RF), Al toks.length x y → racc ≠ [] → (x.failed = false → toks.length - x.next ≤ m1 ∧ toks.length - x.next ≤ m2) → (y.bad = none → FsRel (toks := toks) fs racc acc) →
    Al toks.length (takeP toks toks.length 0 (fnsP toks toks.length m1 x acc).2) (fnsR (toks.map toTk) (2 * toks.length) m2 y fs racc).2.1 ∧ ((fnsR (toks.map toTk) (2 * toks.length) m2 y fs racc).2.1.bad = none → FsRel (toks := toks) (fnsR (toks.map toTk) (2 * toks.length) m2 y fs racc).2.2 (fnsR (toks.map toTk) (2 * toks.length) m2 y fs racc).1 (fnsP toks toks.length m1 x acc).1) := by
  have rstop : ∀ (m : Nat) (y : St) (fs : List FS) (racc : List RF) (p : Nat), y.bad = some p → fnsR (toks.map toTk) (2 * toks.length) m y fs racc = (racc, y, fs) := by
    intro m y fs racc p hy
    cases m with
    | zero => rw [fnsR]
    | succ m => rw [fnsR, if_neg (by rw [hy]; simp)]
  intro m1
  induction m1 with
  | zero =>
    intro m2 x y fs acc racc A hr hf hrel
    rcases A with A | ⟨p, hb, hy⟩
    · have := hf A.1; have := A.2.2.2; omega
    · rw [rstop _ _ _ _ _ hy, fnsP]
      refine ⟨.inr ⟨p, ?_, hy⟩, fun e => by rw [hy] at e; cases e⟩
      unfold takeP
      rw [if_pos (by rw [hb.2.2]; exact H.end_), if_pos rfl]
      exact hb
  | succ m1 ih =>
    intro m2 x y fs acc racc A hr hf hrel
    rcases A with A | ⟨p, hb, hy⟩
    · obtain ⟨hf1, hf2⟩ := hf A.1
      have hxn := A.2.2.2
      obtain ⟨g2, hg2⟩ : ∃ g2, m2 = g2 + 1 := ⟨m2 - 1, by omega⟩
      subst hg2
      have hsort : (tokAt (toks.map toTk) y.cur).sort = 0 ↔ (ptAt toks x.next).kind = 0 := by rw [A.2.2.1, tokAt_map]; exact sortK_zero _
      by_cases k3 : (ptAt toks x.next).kind = 3
      · rw [fnsP, if_pos k3, fnsR, if_pos ⟨A.2.1, .inr (by rw [Ne, hsort]; omega)⟩]
        obtain ⟨a1, a2⟩ := al_fn H HD racc.length fs (.inl A)
        have hm := fnP_more (n := toks.length) H.end_ hxn k3
        refine ih g2 _ _ _ _ _ a1 (by simp) (fun _ => by omega) (fun e => ?_)
        obtain ⟨r1, r2⟩ := a2 e
        exact (hrel A.2.1).snoc r2 r1
      · rw [fnsP, if_neg k3]
        by_cases k0 : (ptAt toks x.next).kind = 0
        · rw [fnsR, if_neg (fun q => q.2.elim hr (fun z => z (hsort.2 k0)))]
          refine ⟨?_, hrel⟩
          unfold takeP
          rw [if_pos k0, if_pos rfl]
          exact .inl A
        · rw [fnsR, if_pos ⟨A.2.1, .inr (fun z => k0 (hsort.1 z))⟩]
          have hbad : (fnR (toks.map toTk) (2 * toks.length) racc.length y fs).2.1.bad = some (ptAt toks x.next).place := by
            have n3 := al_next H (k := 3) (by decide) (by decide) (.inl A : Al toks.length x y)
            simp only [litK, Nat.reduceEqDiff, if_true, if_false] at n3
            have h1 : (eatS (toks.map toTk) [102, 110] y).bad = some (ptAt toks x.next).place := by
              unfold eatS eatR
              rw [if_neg (fun z => k3 (n3.1 z)), A.2.2.1, tokAt_map, A.2.1]
              rfl
            unfold fnR
            simp only
            refine rbad_eat _ _ ?_
            have h2 := rbad_list (toks.map toTk) (rbad_eat (toks.map toTk) [40] (rbad_get (toks.map toTk) 1 h1))
            have h3 := rbad_eat (toks.map toTk) [123] h2
            rw [rbad_stmts _ _ _ _ _ h3]
            exact h3
          rw [rstop _ _ _ _ _ hbad]
          refine ⟨.inr ⟨_, ?_, hbad⟩, fun e => by simp only at e; rw [hbad] at e; cases e⟩
          unfold takeP
          rw [if_neg k0]
          exact ⟨rfl, by simp [failP, A.1], rfl⟩
    · rw [rstop _ _ _ _ _ hy, fnsP, if_neg (by rw [hb.2.2, H.end_]; decide)]
      refine ⟨.inr ⟨p, ?_, hy⟩, fun e => by rw [hy] at e; cases e⟩
      unfold takeP
      rw [if_pos (by rw [hb.2.2]; exact H.end_), if_pos rfl]
      exact hb
/-- The whole program. -/
theorem al_prog : Al toks.length (progP toks toks.length ⟨0, false, 0⟩).2.2 (fnsR (toks.map toTk) (2 * toks.length) toks.length ⟨0, none, 0, 0⟩ [] []).2.1 ∧ ((fnsR (toks.map toTk) (2 * toks.length) toks.length ⟨0, none, 0, 0⟩ [] []).2.1.bad = none → FsRel (toks := toks) (fnsR (toks.map toTk) (2 * toks.length) toks.length ⟨0, none, 0, 0⟩ [] []).2.2 (fnsR (toks.map toTk) (2 * toks.length) toks.length ⟨0, none, 0, 0⟩ [] []).1 (progP toks toks.length ⟨0, false, 0⟩).1) := by
  have hp := H.pos
  obtain ⟨n', hn'⟩ : ∃ n', toks.length = n' + 1 := ⟨toks.length - 1, by omega⟩
  have A : Al toks.length (⟨0, false, 0⟩ : PS) (⟨0, none, 0, 0⟩ : St) := .inl ⟨rfl, rfl, rfl, hp⟩
  obtain ⟨a1, a2⟩ := al_fn H HD 0 [] A
  have hg := fnP_goes (n := toks.length) H.end_ (x := ⟨0, false, 0⟩) hp
  have e : fnsR (toks.map toTk) (2 * toks.length) toks.length ⟨0, none, 0, 0⟩ [] [] = fnsR (toks.map toTk) (2 * toks.length) n' (fnR (toks.map toTk) (2 * toks.length) 0 ⟨0, none, 0, 0⟩ []).2.1 (fnR (toks.map toTk) (2 * toks.length) 0 ⟨0, none, 0, 0⟩ []).2.2 [(fnR (toks.map toTk) (2 * toks.length) 0 ⟨0, none, 0, 0⟩ []).1] := by
    conv => lhs; rw [show toks.length = n' + 1 from hn']
    rw [fnsR, if_pos ⟨rfl, .inl rfl⟩]
    simp [hn']
  rw [e]
  unfold progP
  simp only
  refine al_fns H HD toks.length n' _ _ _ _ _ a1 (by simp) (fun hx => ⟨by omega, ?_⟩) (fun hb => ?_)
  · have t := take_next (k := 3) (by decide) (x := (⟨0, false, 0⟩ : PS)) (toks := toks)
    by_cases k3 : (ptAt toks 0).kind = 3
    · have := fnP_more (n := toks.length) H.end_ (x := ⟨0, false, 0⟩) hp k3
      simp only at this
      omega
    · exfalso
      have := (al_ok a1 hx)
      have hb := this.2.1
      have n3 := al_next H (k := 3) (by decide) (by decide) A
      simp only [litK, Nat.reduceEqDiff, if_true, if_false] at n3
      have h1 : (eatS (toks.map toTk) [102, 110] ⟨0, none, 0, 0⟩).bad = some (ptAt toks 0).place := by
        unfold eatS eatR
        rw [if_neg (fun z => k3 (n3.1 z))]
        simp only [tokAt_map]
        rfl
      have h2 := rbad_list (toks.map toTk) (rbad_eat (toks.map toTk) [40] (rbad_get (toks.map toTk) 1 h1))
      have h3 := rbad_eat (toks.map toTk) [123] h2
      unfold fnR at hb
      simp only at hb
      rw [rbad_stmts _ _ _ _ _ h3] at hb
      have h4 := rbad_eat (toks.map toTk) [125] h3
      rw [h4] at hb
      cases hb
  · obtain ⟨r1, r2⟩ := a2 hb
    refine ⟨rfl, fun i h1 h2 => ?_⟩
    have e0 : i = 0 := by simp at h1; omega
    subst e0
    exact r1
end
end Go.Proofs.YtgbmakpdjdigmaaGreatDoor

/- Plain mathematics: whole programs: both sides tell the same. No condition. -/
namespace Go.Proofs.YtgbmakpdjdigmaaGreatDoor
open Go.Maps

theorem firstR_has (s : ByteArray) : ∀ (l : List TF) (k : Nat) (D : DataW Unit), IsMap D → (has (firstR l k D) (keyS s) = true ↔ has D (keyS s) = true ∨ 0 ≤ fiR (l.map fun t => t.name.text) s k)
  | [], k, D, _ => by simp [firstR, fiR]
  | t :: l, k, D, hm => by
    rw [firstR, List.map_cons, fiR]
    have hs : t.name.text.toList = s.toList ↔ s = t.name.text := ⟨fun h => (bytes_inj h).symm, fun h => by rw [h]⟩
    by_cases hh : has D (keyS t.name.text) = true
    · rw [if_pos hh, firstR_has s l (k + 1) D hm]
      by_cases he : s = t.name.text
      · subst he; rw [if_pos rfl]; simp [hh]
      · rw [if_neg (fun q => he (hs.1 q))]
    · rw [if_neg hh, firstR_has s l (k + 1) _ (hm.put _ _)]
      by_cases he : s = t.name.text
      · subst he
        rw [if_pos rfl, has_put_same hm (keyS_key _)]
        simp
      · rw [if_neg (fun q => he (hs.1 q)), has_put_other (fun q => he (keyS_inj q))]
theorem firstR_at (s : ByteArray) (z : DataW Unit) : ∀ (l : List TF) (k : Nat) (D : DataW Unit), IsMap D → (has D (keyS s) = true → (firstR l k D).atKey (keyS s) z = D.atKey (keyS s) z) ∧ (¬ has D (keyS s) = true → 0 ≤ fiR (l.map fun t => t.name.text) s k → (firstR l k D).atKey (keyS s) z = .lit (.int .i64 (fiR (l.map fun t => t.name.text) s k)))
  | [], k, D, _ => by simp [firstR, fiR]
  | t :: l, k, D, hm => by
    rw [firstR, List.map_cons, fiR]
    have hs : t.name.text.toList = s.toList ↔ s = t.name.text := ⟨fun h => (bytes_inj h).symm, fun h => by rw [h]⟩
    by_cases hh : has D (keyS t.name.text) = true
    · rw [if_pos hh]
      obtain ⟨a, b⟩ := firstR_at s z l (k + 1) D hm
      refine ⟨a, fun h1 h2 => ?_⟩
      by_cases he : s = t.name.text
      · subst he; exact absurd hh h1
      · rw [if_neg (fun q => he (hs.1 q))] at h2 ⊢
        exact b h1 h2
    · rw [if_neg hh]
      obtain ⟨a, b⟩ := firstR_at s z l (k + 1) (D.put (keyS t.name.text) (.lit (.int .i64 k))) (hm.put _ _)
      by_cases he : s = t.name.text
      · subst he
        rw [if_pos rfl]
        refine ⟨fun h1 => absurd h1 hh, fun _ _ => ?_⟩
        rw [a (has_put_same hm (keyS_key _) _), atKey_put_same hm (keyS_key _)]
      · have hk : keyS s ≠ keyS t.name.text := fun q => he (keyS_inj q)
        rw [if_neg (fun q => he (hs.1 q))]
        refine ⟨fun h1 => ?_, fun h1 h2 => b (by rw [has_put_other hk]; exact h1) h2⟩
        rw [a (by rw [has_put_other hk]; exact h1), atKey_put_other hk]
theorem lk_of {fns : List TF} {rf : List RF} (h1 : rf.map (fun f => f.name.text) = fns.map (fun t => t.name.text)) (h2 : rf.map (fun f => f.takes.length) = fns.map (fun t => t.params.length)) : Lk (firstR fns 0 (.map [])) fns rf := by
  have hx : ∀ s, ¬ has (DataW.map [] : DataW Unit) (keyS s) = true := fun s => by simp [has_eq]
  refine ⟨fun s => ?_, fun s hs => ?_⟩
  · rw [h1, firstR_has s fns 0 _ isMap_empty]
    exact ⟨fun q => q.elim (fun z => absurd z (hx s)) id, .inr⟩
  · rw [h1] at hs ⊢
    rw [h2]
    have e : idxOf (firstR fns 0 (.map [])) s = (fiR (fns.map fun t => t.name.text) s 0).toNat := by
      unfold idxOf
      rw [(firstR_at s _ fns 0 _ isMap_empty).2 (hx s) hs]
    rw [e]
    unfold parN
    rw [List.getElem?_map]
def SimC (lo : Nat) (c cr : CS) : Prop := c = cr ∧ (c.fault = 0 ∨ c.place < lo)
theorem Sim.c {lo : Nat} {D : DataW Unit} {c : CS} {vs : List ByteArray} {cr : CS} (h : Sim lo D c vs cr) : SimC lo c cr := ⟨h.1, h.2.imp (fun q => q.1) (fun q => q.2)⟩
theorem SimC.start {lo : Nat} {c cr : CS} (h : SimC lo c cr) : Sim lo (.map []) c [] cr := by
  refine ⟨h.1, ?_⟩
  by_cases h0 : c.fault = 0
  · exact .inl ⟨h0, tidy_empty, fun s => by simp [has_eq], rfl⟩
  · exact .inr ⟨h0, h.2.resolve_left h0⟩

section
variable {N : Nat} {toks : List PT} (H : TksOk N toks)
include H
theorem Sim.pars : ∀ (ps : List Nat) {i j : Nat} {x : DataW Unit × CS} {y : List ByteArray × CS}, Sim (ptAt toks i).place x.1 x.2 y.1 y.2 → Asc i j ps → j < toks.length → Sim (ptAt toks j).place (parsC (ps.map (ptAt toks)) x).1 (parsC (ps.map (ptAt toks)) x).2 (rparsC (ps.map (ptAt toks)) y).1 (rparsC (ps.map (ptAt toks)) y).2
  | [], i, j, x, y, h, ha, hj => h.mono (place_le H ha hj)
  | p :: ps, i, j, x, y, h, ha, hj => by
    have hl := ha.2.le
    have h1 := h.to H (p := p) (j := p + 1) (fun lo q hp => q.decl (ptAt toks p) hp) ha.1 (Nat.le_refl _) (by omega)
    exact Sim.pars ps (x := (declD x.1 (ptAt toks p), declC x.1 (ptAt toks p) x.2)) (y := (y.1 ++ [(ptAt toks p).text], declR y.1 (toTk (ptAt toks p)) y.2)) h1 ha.2 hj
variable {F : DataW Unit} {fns : List TF} {fns0 : List RF} (L : Lk F fns fns0)
include L
theorem Sim.stmts {d dep : Nat} : ∀ {a b : Nat} {ts : List TS}, ChnR (Good toks d) a b ts → b < toks.length → ∀ (x : DataW Unit × CS) (y : List ByteArray × CS), Sim (ptAt toks a).place x.1 x.2 y.1 y.2 → Sim (ptAt toks b).place (ts.foldl (fun x t => ckS F fns d dep t x) x).1 (ts.foldl (fun x t => ckS F fns d dep t x) x).2 (rkL fns0 d dep ts y).1 (rkL fns0 d dep ts y).2 := by
  intro a b ts r
  induction r with
  | nil h => intro hb x y hs; exact hs.mono (place_le H h hb)
  | cons h _ ih => intro hb x y hs; exact ih hb _ _ (Sim.stmt H L h dep x y hs)
theorem sim_fun {d i j idx : Nat} {t : TF} (g : GoodF toks d i j t) (hidx : idxOf F t.name.text = idx ↔ fiR (fns0.map fun f => f.name.text) t.name.text 0 = (idx : Int)) {c cr : CS} (h : SimC (ptAt toks i).place c cr) : SimC (ptAt toks j).place (funC F fns d idx t c) (rfunC fns0 d idx t cr).2 := by
  obtain ⟨kn, ps, kb, m, g1, g2, g3, g4, g5, g6, g7⟩ := g.w
  have hl := g4.le
  have hl2 := g6.le (fun _ _ _ q => q.lt)
  have htop := g.top
  have e2 : Sim (ptAt toks (kn + 1)).place (.map []) (if idxOf F t.name.text = idx then (if 12 ≤ idx then repC 4 t.name.place c else c) else repC 5 t.name.place (if 12 ≤ idx then repC 4 t.name.place c else c)) [] (rheadC fns0 idx t cr) := by
    unfold rheadC
    have hb : (idxOf F t.name.text = idx) = (fiR (fns0.map fun f => f.name.text) t.name.text 0 = (idx : Int)) := propext hidx
    simp only [hb]
    refine h.start.to H (p := kn) (fun lo q hp => ?_) g1 (Nat.le_refl _) (by omega)
    rw [g2]
    by_cases h12 : 12 ≤ idx
    · rw [if_pos h12, if_pos h12]
      have r1 := q.rep (e := 4) hp (by decide) (.map []) []
      split
      · exact r1
      · by_cases h0 : c.fault = 0
        · have a1 : repC 4 (ptAt toks kn).place c = ⟨4, (ptAt toks kn).place⟩ := by simp [repC, h0]
          rw [← r1.1, a1]
          exact ⟨by simp [repC, addR], .inr (by simp [repC])⟩
        · have b4 := q.bad hp h0 4
          have b5 := q.bad hp h0 5
          have hq := q.1
          rw [b4.1, b4.2, b5.1]
          rw [← hq] at b5
          rw [b5.2]
          exact ⟨rfl, q.2.imp (fun z => absurd z.1 h0) (fun z => ⟨z.1, by omega⟩)⟩
    · rw [if_neg h12, if_neg h12]
      split
      · exact q.mono (by omega)
      · exact q.rep hp (by decide) _ _
  have e3 := Sim.pars H ps (x := (.map [], _)) (y := ([], _)) e2 g4 (by omega)
  rw [← g3] at e3
  have e4 := Sim.stmts H L (dep := 1) g6 (by omega) _ _ (e3.mono (place_le H (by omega) (by omega)))
  unfold funC rfunC ckB
  simp only [show ¬ (6 < 1) by decide, if_false]
  exact (e4.mono (place_le H (by omega) htop)).c
theorem sim_all {d : Nat} : ∀ {i j : Nat} {l : List TF}, ChnR (GoodF toks d) i j l → j < toks.length → ∀ (k : Nat) (c : CS) (x : List RF × CS), (∀ m (hm : m < l.length), idxOf F l[m].name.text = k + m ↔ fiR (fns0.map fun f => f.name.text) l[m].name.text 0 = ((k + m : Nat) : Int)) → SimC (ptAt toks i).place c x.2 → SimC (ptAt toks j).place (allC F fns d l k c) (rallC fns0 d l k x).2 := by
  intro i j l r
  induction r with
  | nil h => intro hj k c x _ hs; exact ⟨hs.1, hs.2.imp id (fun q => Nat.lt_of_lt_of_le q (place_le H h hj))⟩
  | @cons i m j t l h _ ih =>
    intro hj k c x hi hs
    have s1 := sim_fun H L h (idx := k) (by have := hi 0 (by simp); simpa using this) hs
    rw [allC, rallC]
    refine ih hj (k + 1) _ _ (fun q hq => ?_) s1
    have := hi (q + 1) (by simpa using hq)
    simp only [List.getElem_cons_succ] at this
    rw [show k + 1 + q = k + (q + 1) by omega]
    exact this
end
section
variable {N : Nat} {toks : List PT} (H : TksOk N toks) (hN : N ≤ 4000) (hn : toks.length ≤ 4001)
include H hN hn
theorem fns_good : ∀ (m : Nat) (x : PS) (acc : List TF), x.next < toks.length → (takeP toks toks.length 0 (fnsP toks toks.length m x acc).2).failed = false → x.failed = false ∧ ∃ ts, (fnsP toks toks.length m x acc).1 = acc ++ ts ∧ ChnR (GoodF toks (2 * toks.length + 1)) x.next (fnsP toks toks.length m x acc).2.next ts ∧ (ptAt toks (fnsP toks toks.length m x acc).2.next).kind = 0 ∧ (fnsP toks toks.length m x acc).2.next < toks.length
  | 0, x, acc, hx, h => by
    rw [fnsP] at h ⊢
    obtain ⟨a, b, c⟩ := take_good h
    exact ⟨b, [], by simp, .nil (Nat.le_refl _), a, hx⟩
  | m + 1, x, acc, hx, h => by
    rw [fnsP] at h ⊢
    split at h
    · rename_i k3
      rw [if_pos k3]
      have hg := fnP_goes (n := toks.length) H.end_ hx
      obtain ⟨a1, ts, a2, a3, a4, a5⟩ := fns_good m _ _ hg.2 h
      obtain ⟨b1, b2⟩ := fn_good H hN hn hx a1
      exact ⟨b1, (fnP toks toks.length x).1 :: ts, by rw [a2]; simp, .cons b2 a3, a4, a5⟩
    · rename_i k3
      rw [if_neg k3]
      obtain ⟨a, b, c⟩ := take_good h
      exact ⟨b, [], by simp, .nil (Nat.le_refl _), a, hx⟩
theorem prog_good (h : (progP toks toks.length ⟨0, false, 0⟩).2.2.failed = false) : ChnR (GoodF toks (2 * toks.length + 1)) 0 (toks.length - 1) (progP toks toks.length ⟨0, false, 0⟩).1 ∧ (progP toks toks.length ⟨0, false, 0⟩).2.1 = N ∧ (ptAt toks (toks.length - 1)).place = N := by
  have hp := H.pos
  obtain ⟨tl, l1, l2, l3, l4⟩ := H.last
  have hpl : (ptAt toks (toks.length - 1)).place = N := by unfold ptAt; rw [l1]; exact l4
  unfold progP at h ⊢
  simp only at h ⊢
  have hg := fnP_goes (n := toks.length) H.end_ (x := ⟨0, false, 0⟩) hp
  obtain ⟨a1, ts, a2, a3, a4, a5⟩ := fns_good H hN hn toks.length _ _ hg.2 h
  obtain ⟨b1, b2⟩ := fn_good H hN hn (x := ⟨0, false, 0⟩) hp a1
  have hend : (fnsP toks toks.length toks.length (fnP toks toks.length ⟨0, false, 0⟩).2 [(fnP toks toks.length ⟨0, false, 0⟩).1]).2.next = toks.length - 1 := by
    rcases Nat.lt_or_ge (fnsP toks toks.length toks.length (fnP toks toks.length ⟨0, false, 0⟩).2 [(fnP toks toks.length ⟨0, false, 0⟩).1]).2.next (toks.length - 1) with q | q
    · have := H.only _ _ q (List.getElem?_eq_getElem (by omega))
      exfalso
      apply this
      unfold ptAt at a4
      rw [List.getElem?_eq_getElem (by omega)] at a4
      exact a4
    · omega
  obtain ⟨t1, t2, t3⟩ := take_good h
  rw [t3, hend, a2]
  rw [hend] at a3
  exact ⟨.cons b2 a3, hpl, hpl⟩
end
end Go.Proofs.YtgbmakpdjdigmaaGreatDoor

/- Plain mathematics: what the two readers of a text tell is the same: a fault and its place, or a program. No condition. -/
namespace Go.Proofs.YtgbmakpdjdigmaaGreatDoor
open Go.Maps

theorem All2.mem {A B : Type} {R S : A → B → Prop} {l : List A} {m : List B} (h : All2 R l m) (k : ∀ a b, b ∈ m → R a b → S a b) : All2 S l m := by
  induction h with
  | nil => exact .nil
  | cons h _ ih => exact .cons (k _ _ (List.mem_cons_self ..) h) (ih (fun a b hb => k a b (List.mem_cons_of_mem _ hb)))
section
variable {N : Nat} {toks : List PT} (H : TksOk N toks) (HD : DigOk toks) (hN : N ≤ 4000) (hn : toks.length ≤ 4001)
include H
theorem fnsR_inv : ∀ (m : Nat) (y : St) (fs : List FS) (racc : List RF), Inv toks.length y fs.length → UL toks.length fs → Inv toks.length (fnsR (toks.map toTk) (2 * toks.length) m y fs racc).2.1 (fnsR (toks.map toTk) (2 * toks.length) m y fs racc).2.2.length ∧ UL toks.length (fnsR (toks.map toTk) (2 * toks.length) m y fs racc).2.2
  | 0, y, fs, racc, hi, hu => by rw [fnsR]; exact ⟨hi, hu⟩
  | m + 1, y, fs, racc, hi, hu => by
    have hz : (tokAt (toks.map toTk) (toks.length - 1)).sort = 0 := by rw [tokAt_map]; simp [toTk, H.end_, sortK]
    rw [fnsR]
    split
    · have h1 := (fnR_prog hz (2 * toks.length) racc.length y fs hi).1
      refine fnsR_inv m _ _ _ h1 ?_
      unfold fnR
      simp only
      have E := eatS_goes (toks.map toTk)
      have C : ∀ (L : List UInt8) (x : St), x.cur < toks.length → (eatS (toks.map toTk) L x).cur < toks.length := fun L x h => eatS_cur rfl hz h
      have g1 := (E [102, 110] y).trans (getS_goes (toks.map toTk) 1 (eatS (toks.map toTk) [102, 110] y))
      have c1 : (getS (toks.map toTk) 1 (eatS (toks.map toTk) [102, 110] y)).2.cur < toks.length := getS_cur (q := (getS (toks.map toTk) 1 (eatS (toks.map toTk) [102, 110] y)).1) rfl (by decide) hz (C _ _ hi.1)
      generalize (getS (toks.map toTk) 1 (eatS (toks.map toTk) [102, 110] y)).2 = y1 at *
      have g2 := g1.trans ((E [40] y1).trans (listS_goes (toks.map toTk) (eatS (toks.map toTk) [40] y1)))
      have c2 : (listS (toks.map toTk) (eatS (toks.map toTk) [40] y1)).2.cur < toks.length := listS_cur (q := (listS (toks.map toTk) (eatS (toks.map toTk) [40] y1)).1) rfl hz (C _ _ c1)
      generalize (listS (toks.map toTk) (eatS (toks.map toTk) [40] y1)).2 = y2 at *
      have i3 := hi.goes0 (g2.trans (E [123] y2)) (C [123] y2 c2)
      exact ((both_len (by simp) hz (2 * toks.length)).1 racc.length _ fs [] i3 hu).1
    · exact ⟨hi, hu⟩
include HD hN hn
theorem prog_same (fns : List TF) (stop : Nat) (x : PS) (hP : progP toks toks.length ⟨0, false, 0⟩ = (fns, stop, x)) (rf : List RF) (y : St) (fs : List FS) (hR : fnsR (toks.map toTk) (2 * toks.length) toks.length ⟨0, none, 0, 0⟩ [] [] = (rf, y, fs)) :
    (x.failed = true → y.bad = some x.wrong) ∧
    (x.failed = false → y.bad = none ∧ RHyp 4000 rf fs fns ∧ THyp 4000 fns ∧ (∀ d U w v, PRow d U w v fns → PRow 4000 U w v fns) ∧ chkC fns 4000 stop = finC rf N (rallC rf 4000 fns 0 (rf, ⟨0, 0⟩)).2) := by
  have hp := H.pos
  obtain ⟨a1, a2⟩ := al_prog H HD
  rw [hP, hR] at a1 a2
  simp only at a1 a2
  refine ⟨fun hx => ?_, fun hx => ?_⟩
  · rcases a1 with a | ⟨p, a, b⟩
    · rw [a.1] at hx; cases hx
    · rw [b, a.2.1]
  have hyb : y.bad = none := (al_ok a1 hx).2.1
  have hrel := a2 hyb
  have hgd := prog_good H hN hn (by rw [hP]; exact hx)
  rw [hP] at hgd
  obtain ⟨hg0, hstop, hpl⟩ := hgd
  simp only at hg0 hstop
  -- to the depth 4000
  have hg : ChnR (GoodF toks 4000) 0 (toks.length - 1) fns := hg0.mono (fun i j t g => ⟨by
    obtain ⟨kn, ps, kb, m, g1, g2, g3, g4, g5, g6, g7⟩ := g.w
    refine ⟨kn, ps, kb, m, g1, g2, g3, g4, g5, ?_, g7⟩
    have htop := g.top
    exact g6.low (i0 := 0) (j0 := 4000) (fun _ _ _ q => q.lt) (fun a b z _ hb q => Good.lower 4000 q (by omega)) (Nat.zero_le _) (by omega), g.lt, g.top⟩)
  have hfl := hg.le (fun _ _ _ q => q.lt)
  have hgs : ∀ t, t ∈ fns → ∀ s, s ∈ t.sts → ∃ a b, Good toks 4000 a b s := by
    intro t ht s hs
    obtain ⟨i, j, g⟩ := hg.each t ht
    obtain ⟨kn, ps, kb, m, g1, g2, g3, g4, g5, g6, g7⟩ := g.w
    exact g6.each s hs
  have hcn : ∀ t, t ∈ fns → t.params.length + (t.sts.map (cntS 4000)).sum ≤ 4000 ∧ t.sts.length ≤ 4000 := by
    intro t ht
    obtain ⟨i, j, g⟩ := hg.each t ht
    obtain ⟨kn, ps, kb, m, g1, g2, g3, g4, g5, g6, g7⟩ := g.w
    have htop := g.top
    have l1 := g4.le
    have l2 := chn_sum (f := cntS 4000) (fun _ _ _ q => q.cnt) g6
    have l3 := g6.le (fun _ _ _ q => q.lt)
    rw [g3]
    simp only [List.length_map]
    exact ⟨by omega, by omega⟩
  have hT : THyp 4000 fns := by
    refine ⟨by omega, by decide, fun t ht => ?_⟩
    obtain ⟨i, j, g⟩ := hg.each t ht
    obtain ⟨kn, ps, kb, m, g1, g2, g3, g4, g5, g6, g7⟩ := g.w
    refine ⟨by rw [g2]; exact Nat.le_trans (pt_len H _).1 hN, fun s hs => ?_, fun p hp' => ?_, (hcn t ht).1, (hcn t ht).2⟩
    · obtain ⟨a, b, hh⟩ := hgs t ht s hs
      exact hh.tok hn
    · rw [g3] at hp'
      obtain ⟨q, _, rfl⟩ := List.mem_map.1 hp'
      exact ⟨Nat.le_trans (pt_len H _).1 hN, Nat.le_trans (pt_len H _).2 hN⟩
  have hnm : rf.map (fun f => f.name.text) = fns.map (fun t => t.name.text) := by
    apply List.ext_getElem
    · simp [hrel.len]
    · intro i h1 h2
      simp only [List.getElem_map, (hrel.each i (by simpa using h1) (by simpa using h2)).name]
      rfl
  have htk : rf.map (fun f => f.takes.length) = fns.map (fun t => t.params.length) := by
    apply List.ext_getElem
    · simp [hrel.len]
    · intro i h1 h2
      simp only [List.getElem_map, (hrel.each i (by simpa using h1) (by simpa using h2)).takes, List.length_map]
  have L := lk_of hnm htk
  have hinv := fnsR_inv H toks.length ⟨0, none, 0, 0⟩ [] [] ⟨hp, Nat.zero_le _, Nat.zero_le _, Nat.zero_le _, fun _ => ⟨Nat.le_refl _, Nat.le_refl _, Nat.le_refl _⟩⟩ (fun u hu => by cases hu)
  rw [hR] at hinv
  simp only at hinv
  refine ⟨hyb, ⟨hrel.len, by rw [hrel.len]; omega, by have := hinv.1.2.2.2.1; omega, fun u hu => ?_, fun i h1 h2 => ?_, by decide⟩, hT, fun d U w v hpr => ?_, ?_⟩
  · have := hinv.2 u hu
    omega
  · have r := hrel.each i h1 h2
    have hm : fns[i] ∈ fns := List.getElem_mem _
    refine ⟨r.name, r.takes, r.body.mem (fun a b hb q => ?_), r.vars, ?_, ?_⟩
    · obtain ⟨p, q', hh⟩ := hgs _ hm b hb
      exact hh.flat q
    · rw [r.body.length]; have := (hcn _ hm).2; omega
    · have := (hcn _ hm).1; omega
  · obtain ⟨css, h1, h2, h3, h4⟩ := hpr
    refine ⟨css, h1, h2, h3, fun j g g' => ?_⟩
    obtain ⟨av, sv, e1, e2, e3, ecs, e4, e5, e6, e7⟩ := h4 j g g'
    refine ⟨av, sv, e1, e2, e3, ecs, e4, e5, e6, fun m gm gm' => ?_⟩
    obtain ⟨p, q, hh⟩ := hgs fns[j] (List.getElem_mem _) _ (List.getElem_mem gm)
    exact hh.trep (e7 m gm gm')
  · have hidx : ∀ m (hm : m < fns.length), idxOf (firstR fns 0 (.map [])) fns[m].name.text = 0 + m ↔ fiR (rf.map fun f => f.name.text) fns[m].name.text 0 = ((0 + m : Nat) : Int) := by
      intro m hm
      have hmem : 0 ≤ fiR (fns.map fun t => t.name.text) fns[m].name.text 0 := (fiR_mem _ _ 0).1.2 (List.mem_map.2 ⟨fns[m], List.getElem_mem _, rfl⟩)
      have e : idxOf (firstR fns 0 (.map [])) fns[m].name.text = (fiR (fns.map fun t => t.name.text) fns[m].name.text 0).toNat := by
        unfold idxOf
        rw [(firstR_at _ _ fns 0 _ isMap_empty).2 (by simp [has_eq]) hmem]
      rw [e, hnm]
      omega
    have hs := sim_all H L hg (by omega) 0 ⟨0, 0⟩ (rf, ⟨0, 0⟩) hidx ⟨rfl, .inl rfl⟩
    rw [hpl] at hs
    unfold chkC finC
    rw [hstop]
    have hmain := L.nm ⟨#[109, 97, 105, 110]⟩
    have hmar := L.ar ⟨#[109, 97, 105, 110]⟩
    obtain ⟨hs1, hs2⟩ := hs
    by_cases hc : 0 ≤ fiR (rf.map fun f => f.name.text) ⟨#[109, 97, 105, 110]⟩ 0 ∧ ((rf.map fun f => f.takes.length)[(fiR (rf.map fun f => f.name.text) ⟨#[109, 97, 105, 110]⟩ 0).toNat]?).getD 0 = 0
    · have hb : (has (firstR fns 0 (.map [])) (keyS ⟨#[109, 97, 105, 110]⟩) && parN fns (idxOf (firstR fns 0 (.map [])) ⟨#[109, 97, 105, 110]⟩) == 0) = true := by
        rw [Bool.and_eq_true, beq_iff_eq]
        exact ⟨hmain.2 hc.1, by rw [hmar hc.1]; exact hc.2⟩
      rw [if_pos hb, if_pos hc]
      exact hs1
    · have hb : ¬ (has (firstR fns 0 (.map [])) (keyS ⟨#[109, 97, 105, 110]⟩) && parN fns (idxOf (firstR fns 0 (.map [])) ⟨#[109, 97, 105, 110]⟩) == 0) = true := by
        rw [Bool.and_eq_true, beq_iff_eq]
        rintro ⟨q1, q2⟩
        have q3 := hmain.1 q1
        exact hc ⟨q3, by rw [← hmar q3]; exact q2⟩
      rw [if_neg hb, if_neg hc, ← hs1]
      rcases hs2 with h0 | h0
      · simp [repC, addR, h0]
      · by_cases h00 : (allC (firstR fns 0 (.map [])) fns 4000 fns 0 ⟨0, 0⟩).fault = 0
        · simp [repC, addR, h00]
        · have e1 : repC 6 N (allC (firstR fns 0 (.map [])) fns 4000 fns 0 ⟨0, 0⟩) = allC (firstR fns 0 (.map [])) fns 4000 fns 0 ⟨0, 0⟩ := by simp [repC, h00]
          have e2 : addR 6 N (allC (firstR fns 0 (.map [])) fns 4000 fns 0 ⟨0, 0⟩) = allC (firstR fns 0 (.map [])) fns 4000 fns 0 ⟨0, 0⟩ := by unfold addR; rw [if_neg (by omega)]
          rw [e1, e2]
end
end Go.Proofs.YtgbmakpdjdigmaaGreatDoor

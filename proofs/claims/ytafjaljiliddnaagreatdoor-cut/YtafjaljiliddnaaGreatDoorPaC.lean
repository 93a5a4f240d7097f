/- The program's parser: name and names: what each gives, and the parser behind it; nothing else is turned. -/
import Derived.Test.YtafjaljiliddnaaGreatDoorPaB
namespace Go.Proofs.YtafjaljiliddnaaGreatDoor
open Go.RowKit

def nmV (t : PT) : Value := .agg #[.string t.text, .int .i64 t.place]
def nmCells (t : PT) : List Value := [.string t.text, .int .i64 t.place]
def nmsCells (l : List PT) : List Value := l.flatMap nmCells
theorem nmsCells_snoc (l : List PT) (t : PT) : nmsCells (l ++ [t]) = nmsCells l ++ nmCells t := by simp [nmsCells]

set_option maxRecDepth 100000 in
set_option maxHeartbeats 1000000 in
theorem name_any (b g n cap : Nat) (x : PS) (toks : List PT) (w : World) (hr : PaBlk b g n cap x w) (ht : PtRow g n cap toks w) (hc : x.next < n) :
    Calls Tryz.prog 191 #[.pointer (some ⟨b, 0, none⟩)] w fun e w' => e = .returned (nmV (takeV toks 1 x)) ∧ PaBlk b g n cap (takeP toks n 1 x) w' ∧ Only (fun k => k = b) w w' := by
  have lr := blk_lt hr
  obtain ⟨t, ht'⟩ : ∃ t, takeV toks 1 x = t := ⟨_, rfl⟩
  obtain ⟨y, hy'⟩ : ∃ y, takeP toks n 1 x = y := ⟨_, rfl⟩
  rw [ht', hy']
  have HT' := hide1 ht'
  have HY' := hide1 hy'
  clear ht' hy'
  go_enter Tryz.func191, Tryz.ntmps191
  go_wp2_with fail
  refine (ptake_any b g n cap 1 x toks _ (Box.alloc hr _) (ht.only ((Only.refl (fun _ => False) _).alloc _) (fun q => q)) hc).mono ?_
  rw [HT'.out, HY'.out]
  rintro e w2 ⟨rfl, hr2, ho2⟩
  have hB : w2.heap[w.heap.size]? = some (.cells #[.string { data := #[] }, .int .i64 0] 178 (0, 0)) := by
    rw [ho2.block w.heap.size (by simp) (by omega)]
    exact heap_alloc_new w _
  have c0 := blk_cell hB 0
  have c1 := blk_cell hB 1
  have g0 := fun i => blk_frozen hB i
  simp only [List.getElem?_toArray, List.getElem?_cons_zero, List.getElem?_cons_succ] at c0 c1
  have l2 := blk_lt hB
  have HR2 := hide1 hr2
  have HO2 := ((Only.refl (fun k => k = b) w).alloc _).trans ho2
  clear hr2 ho2 hB hr ht
  unfold ptV
  go_wp2
  refine bodyPost_ret (v := nmV t) (by simp [results, Tryz.results191, go_sem, nmV, c0, c1, l2]) rfl ⟨rfl, ?_, ?_⟩
  · exact Box.only (X := fun k => k = w.heap.size) HR2.out (by repeat (first | exact Only.refl _ _ | refine Only.drew ?_ | refine Only.alloc ?_ _ | refine Only.set_at ?_ _ _)) (by omega)
  · repeat (first | exact HO2 | refine Only.drew ?_ | refine Only.alloc ?_ _ | refine Only.set_new ?_ _ _ (Nat.le_refl _))

/-- Names from a place on, behind those that are there. -/
def nmsR (toks : List PT) : Nat → PS → List PT → List PT × PS
  | 0, x, acc => (acc, x)
  | f + 1, x, acc => if (ptAt toks x.next).kind = 1 then nmsR toks f ⟨x.next + 1, x.failed, x.wrong⟩ (acc ++ [ptAt toks x.next]) else (acc, x)
theorem nmsR_stop {toks : List PT} {f : Nat} {x : PS} {acc : List PT} (h : ¬ (ptAt toks x.next).kind = 1) : nmsR toks f x acc = (acc, x) := by
  cases f with
  | zero => rfl
  | succ f => simp only [nmsR, if_neg h]
theorem nmsR_go {toks : List PT} {f n : Nat} {x : PS} {acc : List PT} (hf : n - 1 - x.next ≤ f) (hc : x.next < n) (hz : (ptAt toks (n - 1)).kind = 0) (h : (ptAt toks x.next).kind = 1) :
    x.next + 1 < n ∧ ∃ f', n - 1 - (x.next + 1) ≤ f' ∧ nmsR toks f x acc = nmsR toks f' ⟨x.next + 1, x.failed, x.wrong⟩ (acc ++ [ptAt toks x.next]) := by
  have hne : x.next ≠ n - 1 := by intro e; rw [e, hz] at h; omega
  refine ⟨by omega, ?_⟩
  cases f with
  | zero => omega
  | succ f => exact ⟨f, by omega, by simp only [nmsR]; rw [if_pos h]⟩
theorem takeP_lt {toks : List PT} {n k : Nat} {x : PS} (hz : (ptAt toks (n - 1)).kind = 0) (hc : x.next < n) : (takeP toks n k x).next < n := by
  unfold takeP
  split
  · rename_i h
    split
    · exact hc
    · rename_i h0
      have hne : x.next ≠ n - 1 := by intro e; rw [e, hz] at h; omega
      show x.next + 1 < n
      omega
  · show n - 1 < n
    omega
theorem nmsR_lt {toks : List PT} {n : Nat} (hz : (ptAt toks (n - 1)).kind = 0) : ∀ (f : Nat) (x : PS) (acc : List PT), x.next < n → (nmsR toks f x acc).2.next < n
  | 0, x, acc, h => h
  | f + 1, x, acc, h => by
    simp only [nmsR]
    split
    · rename_i hb
      have hne : x.next ≠ n - 1 := by intro e; rw [e, hz] at hb; omega
      exact nmsR_lt hz f _ _ (by show x.next + 1 < n; omega)
    · exact h
/-- What names gives. -/
def namesP (toks : List PT) (n : Nat) (x : PS) : List PT × PS :=
  ((nmsR toks toks.length (takeP toks n 10 x) []).1, takeP toks n 11 (nmsR toks toks.length (takeP toks n 10 x) []).2)
theorem namesP_lt {toks : List PT} {n : Nat} {x : PS} (hz : (ptAt toks (n - 1)).kind = 0) (hc : x.next < n) : (namesP toks n x).2.next < n :=
  takeP_lt hz (nmsR_lt hz _ _ _ (takeP_lt hz hc))
def paNext (b : Nat) (w : World) : Nat := match w.cell? ⟨b, 1, none⟩ with | some v => (intOf v).toNat | none => 0
theorem paNext_of {b g n cap : Nat} {x : PS} {w : World} (h : PaBlk b g n cap x w) : paNext b w = x.next := by
  have := blk_cell h 1
  simp only [List.getElem?_toArray, List.getElem?_cons_zero, List.getElem?_cons_succ] at this
  simp [paNext, this, intOf]

theorem Tryz.infoNm : (Tryz.prog.info? 178).map (fun i => (i.zero, i.size, i.bytes)) = some (some (.agg #[.string ByteArray.empty, .int .i64 0]), 2, 24) := by kernel_rfl

set_option maxRecDepth 100000 in
set_option maxHeartbeats 1000000 in
theorem names_any (b g n cap : Nat) (x : PS) (toks : List PT) (w : World) (hr : PaBlk b g n cap x w) (ht : PtRow g n cap toks w) (hc : x.next < n) (hz : (ptAt toks (n - 1)).kind = 0) :
    Calls Tryz.prog 192 #[.pointer (some ⟨b, 0, none⟩)] w fun e w' => ∃ v, e = .returned v ∧ w'.ownsRow w.heap.size 178 2 v (namesP toks n x).1.length (nmsCells (namesP toks n x).1) ∧ PaBlk b g n cap (namesP toks n x).2 w' ∧ Only (fun k => k = b) w w' := by
  obtain ⟨i0, hi, hz0, hz1, hz2⟩ := info_parts Tryz.infoNm
  have hn := ht.2.2.1
  have hnl := ht.2.1
  have hne := ht.ne hr (by decide)
  have lr := blk_lt hr
  have lg := ht.lt
  have hlt := takeP_lt (k := 10) hz hc
  unfold namesP
  generalize hV : nmsR toks toks.length (takeP toks n 10 x) [] = V
  have HV : Hid (nmsR toks toks.length (takeP toks n 10 x) [] = V) := hV
  have HZ := hide1 hz
  have HT := hide1 ht
  have HNL := hide1 hnl
  have HR := hide1 hr
  clear hV hz ht hnl hr
  go_enter Tryz.func192, Tryz.ntmps192
  go_wp2_with fail
  refine (ptake_any b g n cap 10 x toks _ HR.out HT.out hc).mono ?_
  rintro e w1 ⟨rfl, hr1, ho1⟩
  generalize takeP toks n 10 x = x1 at hr1 HV hlt
  have HR1 := hide1 hr1
  have HT1 := hide1 (HT.out.only ho1 hne)
  clear hr1 HR HT
  go_wp2_with fail
  go_loopw [3] (fun v wr => ∃ (y : PS) (f : Nat) (acc : List PT), y.next < n ∧ acc.length ≤ y.next ∧ Hid (PaBlk b g n cap y wr) ∧ Hid (PtRow g n cap toks wr) ∧ wr.ownsRow w.heap.size 178 2 v acc.length (nmsCells acc) ∧ Only (fun k => k = b) w wr ∧ n - 1 - y.next ≤ f ∧ Hid (nmsR toks f y acc = V)) (fun _ wr => n - paNext b wr)
  case atStart => exact ⟨x1, toks.length, [], hlt, by simp, HR1, HT1, World.ownsRow_nil _ _ _ _, ho1, by have := HNL.out; omega, HV⟩
  case round =>
    obtain ⟨y, f, acc, hk, hacc, hr, ht, hown, ho, hf, HC⟩ := hrel
    clear HV HR1 HT1 ho1 hlt
    have HCR := hide1 (paNext_of hr.out)
    by_cases h1 : (ptAt toks y.next).kind = 1
    · have h1' : (((ptAt toks y.next).kind : Int) == 1) = true := by simp [h1]
      obtain ⟨hk1, f', hf1, hf2⟩ := nmsR_go (acc := acc) hf hk HZ.out h1
      have HF : Hid (nmsR toks f' ⟨y.next + 1, y.failed, y.wrong⟩ (acc ++ [ptAt toks y.next]) = V) := by rw [← hf2]; exact HC.out
      have HG : Hid (takeV toks 1 y = ptAt toks y.next ∧ takeP toks n 1 y = ⟨y.next + 1, y.failed, y.wrong⟩) := ⟨by simp [takeV, h1], by simp [takeP, h1]⟩
      clear HC hf2 h1
      go_wp2_with fail
      refine (kind_any b g n cap y toks _ hr.out ht.out hk).mono ?_
      rintro e wk ⟨rfl, hok⟩
      have hrk := hr.out.only hok (fun q => q)
      have htk := ht.out.only hok (fun q => q)
      have hownk := ownsRow_only hown hok (fun _ _ q => q)
      have hoK := ho.tr0 hok
      clear hr ht hown ho hok
      go_wp2_with fail
      refine (name_any b g n cap y toks _ hrk htk hk).mono ?_
      rw [HG.out.1, HG.out.2]
      rintro e w1 ⟨rfl, hr1, ho1⟩
      have hown1 := ownsRow_only hownk ho1 (fun j hj => by have := (hownk.lt j hj).1; omega)
      have hot1 := hoK.trans ho1
      have HR1 := hide1 hr1
      have HT1 := hide1 (htk.only ho1 hne)
      have hs1 := hot1.size
      have lr1 : b < w1.heap.size := blk_lt hr1
      clear hr1 ho1 hrk htk hownk hoK
      unfold nmV
      go_wp2_with (at_builtin; refine wpList_append_own _ rfl _ _ 179 rfl w.heap.size 178 i0 (.agg #[.string ByteArray.empty, .int .i64 0]) 2 24 Tryz.underlying179 hi hz0 hz1 hz2 rfl (by decide) _ _ _ rfl (hown1.alloc _) ⟨w1.heap.size, 0, none⟩ 1 1 [.string (ptAt toks y.next).text, .int .i64 ((ptAt toks y.next).place : Int)] rfl rfl (cells_new rfl _ _) (fun x hx => by simp at hx; rcases hx with rfl | rfl <;> rfl) (by unfold maxLen; omega) (by omega) (by simp; omega) ?_; intro v' w3 hown' hgrow3 hnil3)
      have hg3 : (w1.alloc (.cells #[.string (ptAt toks y.next).text, .int .i64 ((ptAt toks y.next).place : Int)] 178)).grownBy w3 u3.ownBlock := hgrow3
      have hw3 : Only (fun k => u3.ownBlock = some k) w1 w3 := Only.grown ((Only.refl _ _).alloc _) hg3 (fun j hj => .inl hj)
      have hot3 : Only (fun k => k = b) w w3 := Only.grown (hot1.alloc _) hg3 (fun j hj => .inr (hown1.lt j hj).1)
      have hR3 : PaBlk b g n cap ⟨y.next + 1, y.failed, y.wrong⟩ w3 := Box.only HR1.out hw3 (fun h => by have := (hown1.lt _ h).1; omega)
      have hT3 : PtRow g n cap toks w3 := HT1.out.only hw3 (fun h => by have := (hown1.lt _ h).1; omega)
      have hn3 := paNext_of hR3
      refine ⟨⟨⟨y.next + 1, y.failed, y.wrong⟩, f', acc ++ [ptAt toks y.next], hk1, by simp; omega, hR3, hT3, ?_, hot3, hf1, HF⟩, ?_⟩
      · rw [nmsCells_snoc, List.length_append]; exact hown'
      · rw [hn3, HCR.out]; simp only; omega
    · have h1' : (((ptAt toks y.next).kind : Int) == 1) = false := by simp; omega
      have hv : V = (acc, y) := by rw [← HC.out, nmsR_stop h1]
      subst hv
      clear HC h1
      go_wp2_with fail
      refine (kind_any b g n cap y toks _ hr.out ht.out hk).mono ?_
      rintro e wk ⟨rfl, hok⟩
      have hrk := hr.out.only hok (fun q => q)
      have htk := ht.out.only hok (fun q => q)
      have hownk := ownsRow_only hown hok (fun _ _ q => q)
      have hoK := ho.tr0 hok
      clear hr ht hown ho hok
      go_wp2_with fail
      refine (ptake_any b g n cap 11 y toks _ hrk htk hk).mono ?_
      rintro e w1 ⟨rfl, hr1, ho1⟩
      go_wp2_with fail
      go_ret
      refine ⟨_, rfl, ?_, hr1, hoK.trans ho1⟩
      exact ownsRow_only hownk ho1 (fun j hj => by have := (hownk.lt j hj).1; omega)

end Go.Proofs.YtafjaljiliddnaaGreatDoor

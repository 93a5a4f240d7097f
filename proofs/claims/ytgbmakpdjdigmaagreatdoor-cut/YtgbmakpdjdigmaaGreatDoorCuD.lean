/- Cut's argument read as data: a slice of lines lies in memory as LnAt says. -/
import Derived.Test.YtgbmakpdjdigmaaGreatDoorRows
import Derived.Test.YtgbmakpdjdigmaaGreatDoorKpD
import Derived.ProofKit
import Derived.SizedLaws
import Derived.Deep.Slices
import Derived.Carry
import Derived.LaidMore
import Derived.OpenShut
import Derived.Stop.Joined
namespace Go.Proofs.YtgbmakpdjdigmaaGreatDoor
open Go.ChangeShapes Go.WideShapes Go.ChangeAt Go.RowKit

theorem Tryz.own : ownKnob Tryz.prog.godebug = none := by kernel_rfl
theorem Tryz.laidOut : laidOutB Tryz.prog = true := by kernel_rfl
theorem Tryz.cellsLn : Tryz.prog.cellsOf 73 = 6 := by kernel_rfl
theorem Tryz.cellsI : Tryz.prog.cellsOf 3 = 1 := by kernel_rfl
def lnFields : Option TypeDesc → List (TypeId × Nat)
  | some (.struct fs) => fs.toList.map (fun f => (f.type, f.offset))
  | _ => []
theorem Tryz.structLn : lnFields (Tryz.prog.underlying 73) = [(3, 0), (3, 1), (3, 2), (3, 3), (3, 4), (3, 5)] := by kernel_rfl
theorem wf_ok {n : Int} (h : (Lit.int .i64 n).wf = true) : i64ok n := by
  have h1 : IntKind.i64.min = -9223372036854775808 := rfl
  have h2 : IntKind.i64.max = 9223372036854775807 := rfl
  simp only [Lit.wf, Bool.and_eq_true, decide_eq_true_eq] at h
  exact ⟨by omega, by omega⟩
theorem cell_spot {w : World} {a : Addr} {v : Value} (h : w.cell? a = some v) : a.spot = none ∧ a.block < w.heap.size := by
  unfold World.cell? at h
  split at h
  · rename_i c e fz hb
    split at h
    · cases h
    · rename_i hs
      exact ⟨by simpa using hs, (Array.getElem?_eq_some_iff.1 hb).1⟩
  · cases h
theorem cell_addr {w : World} {b o j : Nat} {v : Value} (h : w.cell? ((⟨b, o, none⟩ : Addr).add j) = some v) : w.cell? ⟨b, o + j, none⟩ = some v := by
  unfold Addr.add at h
  split at h
  · rename_i hj
    subst hj
    exact h
  · exact h

section
variable {H : Type} {enc : TypeId × Value → H} {W : World}
theorem int_field {n : Nat} {cs : List Value} {xs : List (DataW H × List MemPlace)} {i : Nat} {f : Field} (hf : DataW.trod enc Tryz.prog W 0 (fun _ => true) true n f.type ((cs.drop f.offset).take (Tryz.prog.cellsOf f.type)) = xs[i]?) (ht : f.type = 3) (ho : f.offset = i) (hx : i < xs.length) (hc : i < cs.length) : ∃ m : Int, cs[i] = .int .i64 m ∧ i64ok m := by
  rw [ht, ho, Tryz.cellsI, List.getElem?_eq_getElem hx] at hf
  obtain ⟨m, e1, _, e3⟩ := DataW.trod_int Tryz.underlying3 hf
  rw [List.drop_eq_getElem_cons hc, List.take_succ_cons, List.take_zero] at e1
  exact ⟨m, (List.cons.inj e1).1, wf_ok e3⟩
theorem open_line {fuel : Nat} {cs : List Value} {x : DataW H × List MemPlace} (h : DataW.trod enc Tryz.prog W 0 (fun _ => true) true fuel 73 cs = some x) : ∃ l : Ln, l.Ok ∧ cs = (lnA l).toList := by
  have hu := Tryz.structLn
  cases hd : Tryz.prog.underlying 73 with
  | none => rw [hd] at hu; simp [lnFields] at hu
  | some td =>
    rw [hd] at hu
    cases td <;> simp only [lnFields] at hu <;> try (simp at hu; done)
    rename_i fs
    obtain ⟨xs, n, _, _, hl, hlen, hf⟩ := DataW.trod_struct hd h
    rw [Tryz.cellsLn] at hl
    have hs6 : fs.size = 6 := by
      have := congrArg List.length hu
      simpa using this
    have hfi : ∀ i (hi : i < fs.size), fs[i].type = 3 ∧ fs[i].offset = i := by
      intro i hi
      have e : (fs.toList.map (fun f => (f.type, f.offset)))[i]? = some (fs[i].type, fs[i].offset) := by simp [hi]
      rw [hu] at e
      have h6 : i = 0 ∨ i = 1 ∨ i = 2 ∨ i = 3 ∨ i = 4 ∨ i = 5 := by omega
      rcases h6 with rfl | rfl | rfl | rfl | rfl | rfl <;> simp at e <;> exact ⟨e.1.symm, e.2.symm⟩
    have g : ∀ i (hi : i < 6), ∃ m : Int, cs[i]'(by omega) = .int .i64 m ∧ i64ok m := by
      intro i hi
      have hi' : i < fs.size := by omega
      exact int_field (hf i fs[i] (Array.getElem?_eq_getElem hi')) (hfi i hi').1 (hfi i hi').2 (by omega) (by omega)
    obtain ⟨m0, e0, k0⟩ := g 0 (by omega)
    obtain ⟨m1, e1, k1⟩ := g 1 (by omega)
    obtain ⟨m2, e2, k2⟩ := g 2 (by omega)
    obtain ⟨m3, e3, k3⟩ := g 3 (by omega)
    obtain ⟨m4, e4, k4⟩ := g 4 (by omega)
    obtain ⟨m5, e5, k5⟩ := g 5 (by omega)
    refine ⟨⟨m0, m1, m2, m3, m4, m5⟩, ⟨k0, k1, k2, k3, k4, k5⟩, ?_⟩
    refine List.ext_getElem (by simp [hl]) ?_
    intro i h1 h2
    have h6 : i = 0 ∨ i = 1 ∨ i = 2 ∨ i = 3 ∨ i = 4 ∨ i = 5 := by omega
    rcases h6 with rfl | rfl | rfl | rfl | rfl | rfl
    · exact e0
    · exact e1
    · exact e2
    · exact e3
    · exact e4
    · exact e5

theorem open_lines {lv : Value} {d : DataW H} {p : List MemPlace} {a0 : Option Addr} {len0 cap0 : Nat} (hlv : lv = .slice a0 len0 cap0) (h : DataW.Trod enc Tryz.prog W 0 (fun _ => true) true 53 lv d p) : ∃ ls : List Ln, LnAt lv ls W ∧ ∀ l ∈ ls, l.Ok := by
  subst hlv
  obtain ⟨fuel, hf⟩ := h
  rcases Go.Deep.open_slice Tryz.underlying53 hf with ⟨hcs, _⟩ | ⟨a, len, cap, m, n, D, Pl, hcs, _, hl, _, hmm, _, hel⟩
  · simp [Value.cells] at hcs
    obtain ⟨rfl, rfl, rfl⟩ := hcs
    exact ⟨[], ⟨none, 0, rfl, Nat.le_refl _, .inl rfl⟩, by simp⟩
  · simp [Value.cells] at hcs
    obtain ⟨rfl, rfl, rfl⟩ := hcs
    have hlm : len0 ≤ m := by rw [hmm]; simpa using hl
    have each : ∀ i : Nat, ∃ l : Ln, i < len0 → (l.Ok ∧ ∀ j (hj : j < 6), W.cell? ((a.add (i * 6)).add j) = (lnA l).toList[j]?) := by
      intro i
      by_cases hi : i < len0
      · obtain ⟨cs', h1, h2⟩ := hel i (by omega)
        rw [Tryz.cellsLn] at h1
        obtain ⟨_, hlen, hcell⟩ := World.cells?_some h1
        obtain ⟨l, ok, e⟩ := open_line h2
        exact ⟨l, fun _ => ⟨ok, fun j hj => by rw [hcell j hj, e]⟩⟩
      · exact ⟨⟨0, 0, 0, 0, 0, 0⟩, fun h => absurd h hi⟩
    obtain ⟨q, hq⟩ := Classical.skolem.1 each
    refine ⟨(List.range len0).map q, ⟨some a, cap0, by simp, by simpa using hl, ?_⟩, ?_⟩
    · by_cases h0 : len0 = 0
      · subst h0; exact .inl rfl
      · right
        have hs : a.spot = none ∧ a.block < W.heap.size := by
          have := (hq 0 (by omega)).2 0 (by omega)
          exact cell_spot (a := (a.add (0 * 6)).add 0) (v := .int .i64 (q 0).a0) (by simpa using this)
        obtain ⟨b, o, sp⟩ := a
        obtain ⟨rfl, hb⟩ := hs
        have hc : ∀ i, i < len0 → ∀ j, j < 6 → W.cell? ⟨b, o + i * 6 + j, none⟩ = (lnA (q i)).toList[j]? := by
          intro i hi j hj
          have e := (hq i hi).2 j hj
          rw [Go.Deep.add_add] at e
          have h6 : j < (lnA (q i)).toList.length := by simpa using hj
          rw [List.getElem?_eq_getElem h6] at e ⊢
          have := cell_addr e
          rwa [← Nat.add_assoc] at this
        refine ⟨b, o, rfl, fun _ => hb, ?_, ?_, ?_, ?_, ?_, ?_⟩
        all_goals
          intro i hi
          have hi' : i < len0 := by simpa using hi
          simp only [List.getElem_map, List.getElem_range]
        · simpa using hc i hi' 0 (by omega)
        · simpa using hc i hi' 1 (by omega)
        · simpa using hc i hi' 2 (by omega)
        · simpa using hc i hi' 3 (by omega)
        · simpa using hc i hi' 4 (by omega)
        · simpa using hc i hi' 5 (by omega)
    · intro l hl'
      obtain ⟨i, hi, rfl⟩ := List.mem_map.1 hl'
      exact (hq i (List.mem_range.1 hi)).1

end
end Go.Proofs.YtgbmakpdjdigmaaGreatDoor

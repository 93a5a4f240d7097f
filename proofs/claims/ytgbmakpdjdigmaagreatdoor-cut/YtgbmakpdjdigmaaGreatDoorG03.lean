/- ScC ScD ScE ScF ScG ScH: told at each. -/
import Derived.Test.YtgbmakpdjdigmaaGreatDoorProg
import Derived.Test.YtgbmakpdjdigmaaGreatDoorG01
import Derived.WalkKit
import Derived.WalkSpells
import Derived.WalkLawsBesides
import Derived.Test.YtgbmakpdjdigmaaGreatDoorG02

/- Contracts of the program's smallest functions of package scan (isLetter, markKind, wordKind, isBroken): each returns its test; memory untouched. -/
namespace Go.Proofs.YtgbmakpdjdigmaaGreatDoor
open Go.RowKit

theorem sret_bool {a b : Bool} (h : a = b) : Ending.returned (.bool a) = .returned (.bool b) := by rw [h]
theorem sret_int {k : IntKind} {a b : Int} (h : a = b) : Ending.returned (.int k a) = .returned (.int k b) := by rw [h]
theorem sret_ib {a c : Int} {b d : Bool} (h : a = c) (k : b = d) : Ending.returned (.tuple #[.int .i64 a, .bool b]) = .returned (.tuple #[.int .i64 c, .bool d]) := by rw [h, k]

set_option maxHeartbeats 400000 in
theorem isLetter_any (r : Nat) (w : World) :
    Calls Tryz.prog 168 #[.int .i32 r] w fun e w' => e = .returned (.bool (letR r)) ∧ w' = w := by
  by_cases h : (r : Int) = 247
  · have h' : r = 247 := by omega
    subst h'
    go_enter Tryz.func168, Tryz.ntmps168
    go_wp2
    go_ret
    exact ⟨rfl, rfl⟩
  · have h' : (((r : Nat) : Int) == 247) = false := by simpa using h
    go_enter Tryz.func168, Tryz.ntmps168
    go_wp2
    all_goals
      go_ret
      exact ⟨sret_bool (by rw [Bool.eq_iff_iff]; simp [letR]; omega), rfl⟩

theorem markK_zero {r : Nat} (h1 : r ≠ 48) (h2 : r ≠ 49) (h3 : r ≠ 50) (h4 : r ≠ 51) (h5 : r ≠ 40) (h6 : r ≠ 41) (h7 : r ≠ 123) (h8 : r ≠ 125) (h9 : r ≠ 59) (h10 : r ≠ 61) (h11 : r ≠ 38) (h12 : r ≠ 42) (h13 : r ≠ 64) (h14 : r ≠ 46) (h15 : r ≠ 63) : markK r = 0 := by
  simp [markK, *]
set_option maxHeartbeats 400000 in
theorem markKind_any (r : Nat) (w : World) :
    Calls Tryz.prog 206 #[.int .i32 r] w fun e w' => e = .returned (.tuple #[.int .i64 (markK r), .bool (markK r != 0)]) ∧ w' = w := by
  generalize hm : markK r = m
  have HM : Hid (markK r = m) := hm
  clear hm
  go_enter Tryz.func206, Tryz.ntmps206
  go_wp2
  all_goals
    go_ret2
    refine ⟨?_, rfl⟩
    have hm := HM.out
    simp only [beq_iff_eq, beq_eq_false_iff_ne, ne_eq] at *
    first
      | (have hr : r = 48 := by omega
         subst hr; subst hm; rfl)
      | (have hr : r = 49 := by omega
         subst hr; subst hm; rfl)
      | (have hr : r = 50 := by omega
         subst hr; subst hm; rfl)
      | (have hr : r = 51 := by omega
         subst hr; subst hm; rfl)
      | (have hr : r = 40 := by omega
         subst hr; subst hm; rfl)
      | (have hr : r = 41 := by omega
         subst hr; subst hm; rfl)
      | (have hr : r = 123 := by omega
         subst hr; subst hm; rfl)
      | (have hr : r = 125 := by omega
         subst hr; subst hm; rfl)
      | (have hr : r = 59 := by omega
         subst hr; subst hm; rfl)
      | (have hr : r = 61 := by omega
         subst hr; subst hm; rfl)
      | (have hr : r = 38 := by omega
         subst hr; subst hm; rfl)
      | (have hr : r = 42 := by omega
         subst hr; subst hm; rfl)
      | (have hr : r = 64 := by omega
         subst hr; subst hm; rfl)
      | (have hr : r = 46 := by omega
         subst hr; subst hm; rfl)
      | (have hr : r = 63 := by omega
         subst hr; subst hm; rfl)
      | (have e : m = 0 := by
           rw [← hm]
           exact markK_zero (by omega) (by omega) (by omega) (by omega) (by omega) (by omega) (by omega) (by omega) (by omega) (by omega) (by omega) (by omega) (by omega) (by omega) (by omega)
         subst e; rfl)

set_option maxHeartbeats 400000 in
theorem wordKind_any (s : ByteArray) (w : World) :
    Calls Tryz.prog 171 #[.string s] w fun e w' => e = .returned (.int .i64 (wordK s.toList)) ∧ w' = w := by
  go_enter Tryz.func171, Tryz.ntmps171
  go_wp2
  all_goals
    go_ret
    refine ⟨sret_int ?_, rfl⟩
    first
      | (simp [wordK, *]; done)
      | (simp_all [wordK]; done)

end Go.Proofs.YtgbmakpdjdigmaaGreatDoor

/- Contracts of strings.HasPrefix and of the program's isBroken: each returns its test; memory untouched. Texts of at most 4001 bytes. -/
namespace Go.Proofs.YtgbmakpdjdigmaaGreatDoor
open Go.RowKit

def hpB (s p : ByteArray) : Bool := decide (p.size ≤ s.size) && ((s.extract 0 p.size).toList == p.toList)

set_option maxHeartbeats 400000 in
theorem hasPrefixL_any (s p : ByteArray) (_hs : s.size ≤ 4001) (_hp : p.size ≤ 4001) (w : World) :
    Calls Tryz.prog 230 #[.string s, .string p] w fun e w' => e = .returned (.bool (hpB s p)) ∧ w' = w := by
  generalize hv : hpB s p = v
  have HV : Hid (hpB s p = v) := hv
  clear hv
  by_cases h : p.size ≤ s.size
  · cases hq : ((s.extract 0 p.size).toList == p.toList) with
    | true =>
      go_enter Tryz.func230, Tryz.ntmps230
      go_wp2
      go_ret
      exact ⟨sret_bool (by rw [← HV.out]; simp only [hpB, hq]; simp [h]), rfl⟩
    | false =>
      go_enter Tryz.func230, Tryz.ntmps230
      go_wp2
      go_ret
      exact ⟨sret_bool (by rw [← HV.out]; simp only [hpB, hq]; simp), rfl⟩
  · have h' : s.size < p.size := by omega
    go_enter Tryz.func230, Tryz.ntmps230
    go_wp2
    go_ret
    exact ⟨sret_bool (by rw [← HV.out]; simp [hpB, h]), rfl⟩

set_option maxHeartbeats 400000 in
theorem hasPrefix_any (s p : ByteArray) (hs : s.size ≤ 4001) (hp : p.size ≤ 4001) (w : World) :
    Calls Tryz.prog 205 #[.string s, .string p] w fun e w' => e = .returned (.bool (hpB s p)) ∧ w' = w := by
  go_enter Tryz.func205, Tryz.ntmps205
  go_wp2_with (go_at_call 230; refine (hasPrefixL_any _ _ hs hp _).mono ?_; rintro e w' ⟨rfl, hw⟩; have hw := hw.symm; subst hw)
  go_ret
  exact ⟨rfl, rfl⟩

theorem hpB_rest (s : ByteArray) (p : Nat) (hp : p ≤ s.size) : hpB (s.extract p s.size) { data := #[239, 191, 189] } = (decide (p + 3 ≤ s.size) && (s.extract p (p + 3)).toList == [239, 191, 189]) := by
  have e1 : (s.extract p s.size).size = s.size - p := by simp
  have e2 : ByteArray.size { data := #[239, 191, 189] } = 3 := rfl
  have e3 : ByteArray.toList { data := #[239, 191, 189] } = [239, 191, 189] := by rw [ByteArray.toList_eq]
  unfold hpB
  rw [e1, e2, e3]
  by_cases h : p + 3 ≤ s.size
  · have h1 : 3 ≤ s.size - p := by omega
    have e4 : (s.extract p s.size).extract 0 3 = s.extract p (p + 3) := by
      rw [ByteArray.extract_extract]
      congr 1
      omega
    rw [e4]
    simp [h, h1]
  · have h1 : ¬ 3 ≤ s.size - p := by omega
    simp [h, h1]

set_option maxHeartbeats 400000 in
theorem isBroken_any (s : ByteArray) (p r : Nat) (hs : s.size ≤ 4000) (hp : p ≤ s.size) (w : World) :
    Calls Tryz.prog 167 #[.string s, .int .i64 p, .int .i32 r] w fun e w' => e = .returned (.bool (brokenB s p r)) ∧ w' = w := by
  have HB := hide1 (hpB_rest s p hp)
  generalize hv : brokenB s p r = v
  have HV : Hid (brokenB s p r = v) := hv
  clear hv
  by_cases h : r = 65533
  · have h' : (((r : Nat) : Int) == 65533) = true := by simp; omega
    go_enter Tryz.func167, Tryz.ntmps167
    go_wp2_with (go_at_call 205; refine (hasPrefix_any _ _ (by simp; omega) (by decide) _).mono ?_; rintro e w' ⟨rfl, hw⟩; have hw := hw.symm; subst hw)
    go_ret
    exact ⟨sret_bool (by rw [← HV.out, HB.out]; simp [brokenB, h]), rfl⟩
  · have h' : (((r : Nat) : Int) == 65533) = false := by simp; omega
    go_enter Tryz.func167, Tryz.ntmps167
    go_wp2
    go_ret
    exact ⟨sret_bool (by rw [← HV.out]; simp [brokenB, h]), rfl⟩

end Go.Proofs.YtgbmakpdjdigmaaGreatDoor

/- The program's scanner in memory (ScS), what a call on it may turn (Fr), and its method add: one token more. Texts of at most 4000 bytes. -/
namespace Go.Proofs.YtgbmakpdjdigmaaGreatDoor
open Go.RowKit

def ptCells (t : PT) : List Value := [.int .i64 t.kind, .string t.text, .int .i64 t.place]
def ptsCells (l : List PT) : List Value := l.flatMap ptCells
theorem ptsCells_snoc (l : List PT) (t : PT) : ptsCells (l ++ [t]) = ptsCells l ++ ptCells t := by simp [ptsCells]
/-- The scanner lies at block b, its tokens in a row of its own. -/
def ScS (B b : Nat) (s : ByteArray) (v : Value) (x : Sc) (w : World) : Prop :=
  Box b #[.string s, v, .bool x.rem, .int .i64 x.start, .int .i64 x.letters] 231 w ∧ w.ownsRow B 165 3 v x.toks.length (ptsCells x.toks)
/-- Nothing old is turned but the box b and the row of v; the row of v' is that, or new. -/
structure Fr (b : Nat) (v v' : Value) (w w' : World) : Prop where
  only : Only (fun k => k = b ∨ v.ownBlock = some k) w w'
  own : ∀ k, v'.ownBlock = some k → v.ownBlock = some k ∨ w.heap.size ≤ k
theorem Fr.refl (b : Nat) (v : Value) (w : World) : Fr b v v w w := ⟨Only.refl _ _, fun _ h => .inl h⟩
theorem Fr.trans {b : Nat} {u v t : Value} {w w1 w2 : World} (h : Fr b u v w w1) (k : Fr b v t w1 w2) : Fr b u t w w2 := by
  refine ⟨⟨k.only.os.trans h.only.os, k.only.tape.trans h.only.tape, k.only.output.trans h.only.output, Nat.le_trans h.only.size k.only.size, fun i hi hx => ?_⟩, fun i hi => ?_⟩
  · rw [k.only.block i (Nat.lt_of_lt_of_le hi h.only.size) ?_]
    · exact h.only.block i hi hx
    · rintro (q | q)
      · exact hx (.inl q)
      · rcases h.own i q with q | q
        · exact hx (.inr q)
        · omega
  · rcases k.own i hi with q | q
    · exact h.own i q
    · exact .inr (Nat.le_trans h.only.size q)
theorem Fr.drew {b : Nat} {v v' : Value} {w w' : World} (h : Fr b v v' w w') : Fr b v v' w w'.drew := ⟨h.only.drew, h.own⟩
theorem Fr.drewN {b : Nat} {v v' : Value} {w w' : World} (h : Fr b v v' w w') (n : Nat) : Fr b v v' w (w'.drewN n) := ⟨h.only.drewN n, h.own⟩
theorem Fr.alloc {b : Nat} {v v' : Value} {w w' : World} (h : Fr b v v' w w') (o : Obj) : Fr b v v' w (w'.alloc o) := ⟨h.only.alloc o, h.own⟩
theorem Fr.set {b : Nat} {v v' : Value} {w w' : World} (h : Fr b v v' w w') (i : Nat) (u : Value) : Fr b v v' w (w'.setCell ⟨b, i, none⟩ u) := ⟨h.only.setCell (.inl (.inl rfl)) u, h.own⟩
theorem ScS.ne {B b : Nat} {s : ByteArray} {v : Value} {x : Sc} {w : World} (h : ScS B b s v x w) : ∀ k, v.ownBlock = some k → k ≠ b := own_ne h.2 h.1 (by decide)
theorem ScS.only {B b : Nat} {s : ByteArray} {v : Value} {x : Sc} {w w' : World} (h : ScS B b s v x w) (ho : Only (fun _ => False) w w') : ScS B b s v x w' :=
  ⟨h.1.only ho (fun q => q), ownsRow_only h.2 ho (fun _ _ q => q)⟩
def pushT (x : Sc) (t : PT) : Sc := ⟨x.toks ++ [t], x.rem, x.start, x.letters⟩

theorem Tryz.infoPT : (Tryz.prog.info? 165).map (fun i => (i.zero, i.size, i.bytes)) = some (some (.agg #[.int .i64 0, .string ByteArray.empty, .int .i64 0]), 3, 32) := by kernel_rfl

theorem add_grow {B b : Nat} {s : ByteArray} {v v' : Value} {x : Sc} {t : PT} {w W w3 : World} (h : ScS B b s v x w) (hW : Only (fun _ => False) w W) (hown : w3.ownsRow B 165 3 v' (x.toks.length + 1) (ptsCells x.toks ++ ptCells t)) (hg : W.grownBy w3 v.ownBlock) (hnew : ∀ k, v'.ownBlock = some k → v.ownBlock = some k ∨ w.heap.size ≤ k) :
    ScS B b s v' (pushT x t) (w3.setCell ⟨b, 1, none⟩ v') ∧ Fr b v v' w (w3.setCell ⟨b, 1, none⟩ v') := by
  have hne := h.ne
  have ho3 : Only (fun k => v.ownBlock = some k) w w3 := Only.grown (hW.mono (fun _ _ q => q.elim)) hg (fun k hk => .inl hk)
  have hb3 := h.1.only ho3 (fun q => hne b q rfl)
  have ho4 := (Only.refl (fun k => k = b) w3).set_at 1 v'
  have hov : ∀ k, v'.ownBlock = some k → k ≠ b := own_ne hown hb3 (by decide)
  refine ⟨⟨?_, ?_⟩, ?_, hnew⟩
  · have := hb3.set 1 v'
    simpa [pushT] using this
  · have := ownsRow_only hown ho4 hov
    simpa [pushT, ptsCells_snoc] using this
  · exact (ho3.mono (fun k _ q => .inr q)).trans (ho4.mono (fun k _ q => .inl q))

set_option maxRecDepth 100000 in
set_option maxHeartbeats 1000000 in
theorem add_any (B b : Nat) (s : ByteArray) (v : Value) (x : Sc) (kind st en : Nat) (w : World) (_hs : s.size ≤ 4000) (h : ScS B b s v x w) (hB : B ≤ w.heap.size) (hse : st ≤ en) (hen : en ≤ s.size) (hm : x.toks.length ≤ 4001) :
    Calls Tryz.prog 117 #[.pointer (some ⟨b, 0, none⟩), .int .i64 kind, .int .i64 st, .int .i64 en] w fun e w' => e = .returned (.tuple #[]) ∧ ∃ v', ScS B b s v' (pushT x ⟨kind, s.extract st en, st⟩) w' ∧ Fr b v v' w w' := by
  obtain ⟨i0, hi, hz0, hz1, hz2⟩ := info_parts Tryz.infoPT
  have c0 := h.1.cell 0
  have c1 := h.1.cell 1
  have f1 := h.1.frozen 1
  simp only [List.getElem?_toArray, List.getElem?_cons_zero, List.getElem?_cons_succ] at c0 c1
  obtain ⟨sa, sl, sc, hsv⟩ := owns_form h.2
  subst hsv
  have lb := blk_lt h.1
  have hrow := h.2
  have HNE := hide1 h.ne
  have HS := hide1 h
  clear h
  go_enter Tryz.func117, Tryz.ntmps117
  go_region_law (refine step_append_own rfl _ _ 95 rfl B 165 i0 (.agg #[.int .i64 0, .string ByteArray.empty, .int .i64 0]) 3 32 Tryz.underlying95 hi hz0 hz1 hz2 rfl (by decide) _ _ _ rfl (hrow.alloc _) ⟨w.heap.size, 0, none⟩ 1 1 [.int .i64 kind, .string (s.extract st en), .int .i64 st] rfl rfl (cells_new rfl _ _) (fun u hu => by simp at hu; rcases hu with rfl | rfl | rfl <;> rfl) (by decide) (by unfold maxLen; omega) (by omega) (by simp; omega) ?_; intro v' w3 hown' hgrow3 hnew3; have q1 : w3.cell? ⟨b, 1, none⟩ = some (.slice sa sl sc) := (World.cell?_of_block (hgrow3.block b (by simp; omega) (fun h => HNE.out b h.symm rfl))).trans (by rw [← c1]; exact World.cell?_of_block (Below.heap_alloc _ _ _ lb)); have q2 : w3.frozen? ⟨b, 1, none⟩ = false := (World.frozen?_of_block (hgrow3.block b (by simp; omega) (fun h => HNE.out b h.symm rfl))).trans (by rw [← f1]; exact World.frozen?_of_block (Below.heap_alloc _ _ _ lb)); obtain ⟨va, vl, vc, rfl⟩ := owns_form hown')
  all_goals
    go_wp2_with fail
    go_end0
    refine ⟨rfl, .slice va vl vc, ?_⟩
    exact add_grow HS.out (((Only.refl _ _).alloc _).drew) hown' hgrow3 (fun k hk => (hnew3 k hk).imp id (fun q => by simp at q; omega))

end Go.Proofs.YtgbmakpdjdigmaaGreatDoor

/- The program's scanner: endWord: the word at hand, if there is one, is a token more. Texts of at most 4000 bytes. -/
namespace Go.Proofs.YtgbmakpdjdigmaaGreatDoor
open Go.RowKit

set_option maxRecDepth 100000 in
set_option maxHeartbeats 1000000 in
theorem endWord_any (B b : Nat) (s : ByteArray) (v : Value) (x : Sc) (en : Nat) (w : World) (hs : s.size ≤ 4000) (h : ScS B b s v x w) (hB : B ≤ w.heap.size) (hen : en ≤ s.size) (hok : ScOk en x) :
    Calls Tryz.prog 116 #[.pointer (some ⟨b, 0, none⟩), .int .i64 en] w fun e w' => e = .returned (.tuple #[]) ∧ ∃ v', ScS B b s v' (endW s en x) w' ∧ Fr b v v' w w' := by
  have c0 := h.1.cell 0
  have c3 := h.1.cell 3
  have c4 := h.1.cell 4
  have f4 := h.1.frozen 4
  simp only [List.getElem?_toArray, List.getElem?_cons_zero, List.getElem?_cons_succ] at c0 c3 c4
  have lb := blk_lt h.1
  have ho1 := hok.start
  have ho2 := hok.letters
  have ho3 := hok.many
  have HS := hide1 h
  clear h hok
  by_cases hl : 0 < x.letters
  · have he : endW s en x = ⟨x.toks ++ [⟨wordK (s.extract x.start en).toList, s.extract x.start en, x.start⟩], x.rem, x.start, 0⟩ := by simp [endW, hl]
    rw [he]
    have hl' : decide ((0 : Int) < (x.letters : Int)) = true := by simp; omega
    go_enter Tryz.func116, Tryz.ntmps116
    go_wp2
    go_cut [] (fun wx => ∃ v', ScS B b s v' (pushT x ⟨wordK (s.extract x.start en).toList, s.extract x.start en, x.start⟩) wx ∧ Fr b v v' w wx)
    case first =>
      go_region_with (first
        | (go_at_call 171; refine (wordKind_any _ _).mono ?_; rintro e w' ⟨rfl, hw⟩; have hw := hw.symm; subst hw)
        | (go_at_call 117; refine (add_any B b s v x (wordK (s.extract x.start en).toList) x.start en _ hs (HS.out.only (by repeat (first | exact Only.refl _ _ | refine Only.drew ?_ | refine Only.drewN ?_ _ | refine Only.alloc ?_ _))) (by simpa using hB) ho1 hen (by omega)).mono ?_; rintro e w1 ⟨rfl, v1, h1, h2⟩))
      all_goals
        go_wp2_with fail
        go_meet
        case rel => exact ⟨v1, h1, Fr.trans ⟨(by repeat (first | exact Only.refl _ _ | refine Only.drew ?_ | refine Only.drewN ?_ _ | refine Only.alloc ?_ _)), fun _ h => .inl h⟩ h2⟩
    case rest =>
      obtain ⟨v1, h1, h2⟩ := hcut
      have f4 := h1.1.frozen 4
      have c4 := h1.1.cell 4
      simp only [List.getElem?_toArray, List.getElem?_cons_zero, List.getElem?_cons_succ] at c4
      go_wp2
      go_end0
      refine ⟨rfl, v1, ⟨?_, ?_⟩, h2.set 4 _⟩
      · have := h1.1.set 4 (.int .i64 0)
        simpa [pushT] using this
      · exact ownsRow_only h1.2 ((Only.refl (fun k => k = b) _).set_at 4 _) h1.ne
  · have he : endW s en x = ⟨x.toks, x.rem, x.start, 0⟩ := by simp [endW, hl]
    rw [he]
    have hl' : decide ((0 : Int) < (x.letters : Int)) = false := by simp; omega
    go_enter Tryz.func116, Tryz.ntmps116
    go_wp2
    go_end0
    refine ⟨rfl, v, ⟨?_, ?_⟩, (Fr.refl _ _ _).set 4 _⟩
    · have := HS.out.1.set 4 (.int .i64 0)
      simpa using this
    · exact ownsRow_only HS.out.2 ((Only.refl (fun k => k = b) _).set_at 4 _) HS.out.ne

end Go.Proofs.YtgbmakpdjdigmaaGreatDoor

/- The program's scanner: takeLetter, takeMark: what each answers, and the scanner behind it. Texts of at most 4000 bytes. -/
namespace Go.Proofs.YtgbmakpdjdigmaaGreatDoor
open Go.RowKit

set_option maxRecDepth 100000 in
set_option maxHeartbeats 1000000 in
theorem takeLetter_any (B b : Nat) (s : ByteArray) (v : Value) (x : Sc) (p : Nat) (w : World) (h : ScS B b s v x w) (hl : x.letters ≤ 8) :
    Calls Tryz.prog 169 #[.pointer (some ⟨b, 0, none⟩), .int .i64 p] w fun e w' => e = .returned (.tuple #[.int .i64 ((if 8 < x.letters + 1 then (takeL p x).start else 0 : Nat) : Int), .bool (!decide (8 < x.letters + 1))]) ∧ ScS B b s v (takeL p x) w' ∧ Fr b v v w w' := by
  have c3 := h.1.cell 3
  have c4 := h.1.cell 4
  have ff := h.1.frozen
  simp only [List.getElem?_toArray, List.getElem?_cons_zero, List.getElem?_cons_succ] at c3 c4
  have lb := blk_lt h.1
  have HS := hide1 h
  clear h
  by_cases h0 : x.letters = 0
  · have h0' : ((x.letters : Int) == 0) = true := by simp [h0]
    have ht : takeL p x = ⟨x.toks, x.rem, p, 1⟩ := by simp [takeL, h0]
    rw [ht, h0]
    rw [h0] at c4
    clear h0 h0'
    go_enter Tryz.func169, Tryz.ntmps169
    go_wp2
    go_ret2
    refine ⟨rfl, ⟨?_, ?_⟩, ((Fr.refl _ _ _).set 3 _).set 4 _⟩
    · have := (HS.out.1.set 3 (.int .i64 p)).set 4 (.int .i64 1)
      simpa using this
    · exact ownsRow_only HS.out.2 (((Only.refl (fun k => k = b) _).set_at 3 _).set_at 4 _) HS.out.ne
  · have h0' : ((x.letters : Int) == 0) = false := by simp [h0]
    have ht : takeL p x = ⟨x.toks, x.rem, x.start, x.letters + 1⟩ := by simp [takeL, h0]
    rw [ht]
    by_cases h8 : x.letters = 8
    · rw [h8]
      rw [h8] at c4
      clear h0 h0' hl
      go_enter Tryz.func169, Tryz.ntmps169
      go_wp2
      go_ret2
      refine ⟨rfl, ⟨?_, ?_⟩, (Fr.refl _ _ _).set 4 _⟩
      · have := HS.out.1.set 4 (.int .i64 9)
        simpa using this
      · exact ownsRow_only HS.out.2 ((Only.refl (fun k => k = b) _).set_at 4 _) HS.out.ne
    · have h9 : decide ((8 : Int) < (x.letters : Int) + 1) = false := by simp; omega
      have h9' : ¬ 8 < x.letters + 1 := by omega
      simp only [h9', if_false, decide_false, Bool.not_false]
      clear h9'
      go_enter Tryz.func169, Tryz.ntmps169
      go_wp2
      go_ret2
      refine ⟨rfl, ⟨?_, ?_⟩, (Fr.refl _ _ _).set 4 _⟩
      · have := HS.out.1.set 4 (.int .i64 ((x.letters : Int) + 1))
        simpa using this
      · exact ownsRow_only HS.out.2 ((Only.refl (fun k => k = b) _).set_at 4 _) HS.out.ne

set_option maxRecDepth 100000 in
set_option maxHeartbeats 1000000 in
theorem takeMark_any (B b : Nat) (s : ByteArray) (v : Value) (x : Sc) (p r : Nat) (w : World) (hs : s.size ≤ 4000) (h : ScS B b s v x w) (hB : B ≤ w.heap.size) (hp : p < s.size) (hm : x.toks.length ≤ 4000) :
    Calls Tryz.prog 170 #[.pointer (some ⟨b, 0, none⟩), .int .i64 p, .int .i32 r] w fun e w' => e = .returned (.tuple #[.int .i64 (takeM s p r x).2.1, .bool (takeM s p r x).2.2]) ∧ ∃ v', ScS B b s v' (takeM s p r x).1 w' ∧ Fr b v v' w w' := by
  have c2 := h.1.cell 2
  have ff := h.1.frozen
  simp only [List.getElem?_toArray, List.getElem?_cons_zero, List.getElem?_cons_succ] at c2
  have lb := blk_lt h.1
  have HS := hide1 h
  clear h
  by_cases hbl : r = 32 ∨ r = 9 ∨ r = 10
  · have ht : takeM s p r x = (x, 0, true) := by simp [takeM, hbl]
    rw [ht]
    rcases hbl with hbl | hbl | hbl
    all_goals
      subst hbl
      go_enter Tryz.func170, Tryz.ntmps170
      go_wp2
      go_ret2
      exact ⟨rfl, v, HS.out, Fr.refl _ _ _⟩
  · have e1 : ((r : Int) == 32) = false := by simp; omega
    have e2 : ((r : Int) == 9) = false := by simp; omega
    have e3 : ((r : Int) == 10) = false := by simp; omega
    by_cases h35 : r = 35
    · have ht : takeM s p r x = (⟨x.toks, true, x.start, x.letters⟩, 0, true) := by simp [takeM, h35]
      rw [ht]
      subst h35
      clear e1 e2 e3
      go_enter Tryz.func170, Tryz.ntmps170
      go_wp2
      go_ret2
      refine ⟨rfl, v, ⟨?_, ?_⟩, (Fr.refl _ _ _).set 2 _⟩
      · have := HS.out.1.set 2 (.bool true)
        simpa using this
      · exact ownsRow_only HS.out.2 ((Only.refl (fun k => k = b) _).set_at 2 _) HS.out.ne
    · have e4 : ((r : Int) == 35) = false := by simp; omega
      by_cases hk : markK r = 0
      · have ht : takeM s p r x = (x, p, false) := by simp [takeM, hbl, h35, hk]
        rw [ht]
        have HK : Hid (markK r = 0) := hk
        clear hbl h35 hk
        go_enter Tryz.func170, Tryz.ntmps170
        go_wp2_with (go_at_call 206; refine (markKind_any _ _).mono ?_; rw [HK.out]; rintro e w' ⟨rfl, hw⟩; have hw := hw.symm; subst hw)
        go_ret2
        exact ⟨rfl, v, HS.out, Fr.refl _ _ _⟩
      · have ht : takeM s p r x = (pushT x ⟨markK r, s.extract p (p + 1), p⟩, 0, true) := by simp [takeM, hbl, h35, hk, pushT]
        rw [ht]
        have hk' : (markK r != 0) = true := by simp [hk]
        obtain ⟨m, hm'⟩ : ∃ m, markK r = m := ⟨_, rfl⟩
        rw [hm'] at hk' ⊢
        have HM := hide1 hm'
        have HK := hide1 hk'
        clear hbl h35 hk hk' hm'
        go_enter Tryz.func170, Tryz.ntmps170
        go_wp2_with (first
          | (go_at_call 206; refine (markKind_any _ _).mono ?_; rw [HM.out, HK.out]; rintro e w' ⟨rfl, hw⟩; have hw := hw.symm; subst hw)
          | (go_at_call 117; refine (add_any B b s v x m p (p + 1) _ hs HS.out hB (by omega) (by omega) (by omega)).mono ?_; rintro e w1 ⟨rfl, v1, h1, h2⟩))
        go_ret2
        exact ⟨rfl, v1, h1, h2⟩

end Go.Proofs.YtgbmakpdjdigmaaGreatDoor

/- The program's scanner: take: what it answers of a character, and the scanner behind it. Texts of at most 4000 bytes. -/
namespace Go.Proofs.YtgbmakpdjdigmaaGreatDoor
open Go.RowKit

set_option maxRecDepth 100000 in
set_option maxHeartbeats 1000000 in
theorem take_any (B b : Nat) (s : ByteArray) (v : Value) (x : Sc) (p r : Nat) (w : World) (hs : s.size ≤ 4000) (h : ScS B b s v x w) (hB : B ≤ w.heap.size) (hp : p < s.size) (hok : ScOk p x) :
    Calls Tryz.prog 115 #[.pointer (some ⟨b, 0, none⟩), .int .i64 p, .int .i32 r] w fun e w' => e = .returned (.tuple #[.int .i64 (takeS s p r x).2.1, .bool (takeS s p r x).2.2]) ∧ ∃ v', ScS B b s v' (takeS s p r x).1 w' ∧ Fr b v v' w w' := by
  have c0 := h.1.cell 0
  have c2 := h.1.cell 2
  have ff := h.1.frozen
  simp only [List.getElem?_toArray, List.getElem?_cons_zero, List.getElem?_cons_succ] at c0 c2
  have lb := blk_lt h.1
  have HS := hide1 h
  have HOK := hide1 hok
  clear h hok
  cases hb : brokenB s p r with
  | true =>
    have ht : takeS s p r x = (x, p, false) := by simp [takeS, hb]
    rw [ht]
    have HB := hide1 hb
    clear hb
    go_enter Tryz.func115, Tryz.ntmps115
    go_wp2_with (first | (go_at_call 167; refine (isBroken_any _ _ _ hs (by omega) _).mono ?_; rw [HB.out]; rintro e w' ⟨rfl, hw⟩; have hw := hw.symm; subst hw))
    go_ret2
    exact ⟨rfl, v, HS.out, Fr.refl _ _ _⟩
  | false =>
    have HB := hide1 hb
    cases hr : x.rem with
    | true =>
      have ht : takeS s p r x = (⟨x.toks, r != 10, x.start, x.letters⟩, 0, true) := by simp [takeS, hb, hr]
      rw [ht]
      rw [hr] at c2
      have hx : ((r : Int) != 10) = (r != 10) := by rw [Bool.eq_iff_iff]; simp; omega
      have HX := hide1 hx
      clear hb hr hx
      go_enter Tryz.func115, Tryz.ntmps115
      go_wp2_with (first | (go_at_call 167; refine (isBroken_any _ _ _ hs (by omega) _).mono ?_; rw [HB.out]; rintro e w' ⟨rfl, hw⟩; have hw := hw.symm; subst hw))
      go_ret2
      refine ⟨rfl, v, ⟨?_, ?_⟩, (Fr.refl _ _ _).set 2 _⟩
      · have := HS.out.1.set 2 (.bool ((r : Int) != 10))
        rw [HX.out] at this ⊢
        simpa using this
      · exact ownsRow_only HS.out.2 ((Only.refl (fun k => k = b) _).set_at 2 _) HS.out.ne
    | false =>
      rw [hr] at c2
      cases hl : letR r with
      | true =>
        have HL := hide1 hl
        have ht : takeS s p r x = (takeL p x, (if 8 < x.letters + 1 then (takeL p x).start else 0), !decide (8 < x.letters + 1)) := by
          simp only [takeS, hb, hr, hl]
          by_cases h8 : 8 < x.letters + 1 <;> simp [h8]
        rw [ht]
        clear hb hr hl ht
        obtain ⟨q, hq⟩ : ∃ q, (if 8 < x.letters + 1 then (takeL p x).start else 0) = q := ⟨_, rfl⟩
        obtain ⟨d, hd⟩ : ∃ d, (!decide (8 < x.letters + 1)) = d := ⟨_, rfl⟩
        have HQ := hide1 hq
        have HD := hide1 hd
        rw [hq, hd]
        clear hq hd
        go_enter Tryz.func115, Tryz.ntmps115
        go_wp2_with (first | (go_at_call 167; refine (isBroken_any _ _ _ hs (by omega) _).mono ?_; rw [HB.out]; rintro e w' ⟨rfl, hw⟩; have hw := hw.symm; subst hw) | (go_at_call 168; refine (isLetter_any _ _).mono ?_; rw [HL.out]; rintro e w' ⟨rfl, hw⟩; have hw := hw.symm; subst hw) | (go_at_call 169; refine (takeLetter_any B b s v x p _ HS.out HOK.out.letters).mono ?_; rw [HQ.out, HD.out]; rintro e w1 ⟨rfl, h1, h2⟩))
        go_ret2
        exact ⟨rfl, v, h1, h2⟩
      | false =>
        have HL := hide1 hl
        have ht : takeS s p r x = takeM s p r (endW s p x) := by simp [takeS, hb, hr, hl]
        rw [ht]
        clear hb hr hl ht
        go_enter Tryz.func115, Tryz.ntmps115
        go_wp2_with (first | (go_at_call 167; refine (isBroken_any _ _ _ hs (by omega) _).mono ?_; rw [HB.out]; rintro e w' ⟨rfl, hw⟩; have hw := hw.symm; subst hw) | (go_at_call 168; refine (isLetter_any _ _).mono ?_; rw [HL.out]; rintro e w' ⟨rfl, hw⟩; have hw := hw.symm; subst hw) | (go_at_call 116; refine (endWord_any B b s v x p _ hs HS.out hB (by omega) HOK.out).mono ?_; rintro e w1 ⟨rfl, v1, h1, h2⟩; have hz := h2.only.size; have hq := (HOK.out.endW (s := s)).many) | (go_at_call 170; refine (takeMark_any B b s v1 (endW s p x) p r _ hs h1 (by omega) hp (by omega)).mono ?_; rintro e w2 ⟨rfl, v2, h3, h4⟩))
        go_ret2
        exact ⟨rfl, v2, h3, h2.trans h4⟩

end Go.Proofs.YtgbmakpdjdigmaaGreatDoor

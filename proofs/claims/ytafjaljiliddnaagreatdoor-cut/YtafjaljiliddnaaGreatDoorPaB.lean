/- The program's parser: take: the token it gives, and the parser behind it; nothing else is turned. -/
import Derived.Test.YtafjaljiliddnaaGreatDoorPaA
namespace Go.Proofs.YtafjaljiliddnaaGreatDoor
open Go.RowKit

def ptV (t : PT) : Value := .agg #[.int .i64 t.kind, .string t.text, .int .i64 t.place]

set_option maxRecDepth 100000 in
set_option maxHeartbeats 1000000 in
theorem ptake_any (b g n cap k : Nat) (x : PS) (toks : List PT) (w : World) (hr : PaBlk b g n cap x w) (ht : PtRow g n cap toks w) (hc : x.next < n) :
    Calls Tryz.prog 156 #[.pointer (some ⟨b, 0, none⟩), .int .i64 k] w fun e w' => e = .returned (ptV (takeV toks k x)) ∧ PaBlk b g n cap (takeP toks n k x) w' ∧ Only (fun k => k = b) w w' := by
  obtain ⟨t0, t1, t2⟩ := ht.cells hc
  have hn := ht.2.2.1
  have r0 := blk_cell hr 0
  have r1 := blk_cell hr 1
  have ff := fun i => blk_frozen hr i
  simp only [List.getElem?_toArray, List.getElem?_cons_zero, List.getElem?_cons_succ] at r0 r1
  have lr := blk_lt hr
  have lg := ht.lt
  have hne := ht.ne hr (by decide)
  have HR := hide1 hr
  have HT := hide1 ht
  clear hr ht
  by_cases hk : (ptAt toks x.next).kind = k
  · have hv : takeV toks k x = ptAt toks x.next := by simp [takeV, hk]
    rw [hv]
    have hk' : (((ptAt toks x.next).kind : Int) != (k : Int)) = false := by simp [hk]
    by_cases h0 : k = 0
    · have hp : takeP toks n k x = x := by simp [takeP, hk, h0]
      rw [hp]
      have h0' : ((k : Int) != 0) = false := by simp [h0]
      clear hv hp hk h0
      generalize ptAt toks x.next = t at *
      go_enter Tryz.func156, Tryz.ntmps156
      go_wp2
      go_region
      go_wp2
      refine bodyPost_ret (v := ptV t) (by simp [results, Tryz.results156, go_sem, ptV]) rfl ⟨rfl, ?_, ?_⟩
      · exact Box.only (X := fun _ => False) HR.out (by repeat (first | exact Only.refl _ _ | refine Only.drew ?_ | refine Only.drewN ?_ _ | refine Only.alloc ?_ _)) (fun q => q)
      · exact (by repeat (first | exact Only.refl _ _ | refine Only.drew ?_ | refine Only.drewN ?_ _ | refine Only.alloc ?_ _))
    · have hp : takeP toks n k x = ⟨x.next + 1, x.failed, x.wrong⟩ := by simp [takeP, hk, h0]
      rw [hp]
      have h0' : ((k : Int) != 0) = true := by simp [h0]
      clear hv hp hk h0
      generalize ptAt toks x.next = t at *
      go_enter Tryz.func156, Tryz.ntmps156
      go_wp2
      go_region
      go_wp2
      refine bodyPost_ret (v := ptV t) (by simp [results, Tryz.results156, go_sem, ptV]) rfl ⟨rfl, ?_, ?_⟩
      · have := Box.only (X := fun _ => False) (Box.set HR.out 1 (.int .i64 ((x.next : Int) + 1))) ((((Only.refl _ _).alloc (.cells #[.int .i64 t.kind, .string t.text, .int .i64 t.place] 145)).alloc (.cells #[.int .i64 t.kind, .string t.text, .int .i64 t.place] 145)).drew) (fun q => q)
        simpa [PaBlk] using this
      · exact (((((Only.refl (fun k => k = b) w).set_at 1 _).alloc _).alloc _).drew)
  · have hv : takeV toks k x = ptNo := by simp [takeV, hk]
    have hp : takeP toks n k x = failP toks n x := by simp [takeP, hk]
    rw [hv, hp]
    have hk' : (((ptAt toks x.next).kind : Int) != (k : Int)) = true := by simp; omega
    clear hv hp hk
    generalize ptAt toks x.next = t at *
    go_enter Tryz.func156, Tryz.ntmps156
    go_wp2
    go_region
    go_wp2_with fail
    refine (pfail_any b g n cap x toks _ ?_ ?_ hc).mono ?_
    · exact Box.only (X := fun _ => False) HR.out (by repeat (first | exact Only.refl _ _ | refine Only.drew ?_ | refine Only.drewN ?_ _ | refine Only.alloc ?_ _)) (fun q => q)
    · exact HT.out.only (X := fun _ => False) (by repeat (first | exact Only.refl _ _ | refine Only.drew ?_ | refine Only.drewN ?_ _ | refine Only.alloc ?_ _)) (fun q => q)
    rintro e w2 ⟨rfl, hr2, ho2⟩
    have hB : w2.heap[w.heap.size]? = some (.cells #[.int .i64 0, .string { data := #[] }, .int .i64 0] 145 (0, 0)) := by
      rw [ho2.block w.heap.size (by simp; omega) (by omega)]
      exact (Below.heap_alloc _ _ _ (by simp)).trans (heap_alloc_new w _)
    have c0 := blk_cell hB 0
    have c1 := blk_cell hB 1
    have c2 := blk_cell hB 2
    have g0 := fun i => blk_frozen hB i
    simp only [List.getElem?_toArray, List.getElem?_cons_zero, List.getElem?_cons_succ] at c0 c1 c2
    have l2 := blk_lt hB
    have HR2 := hide1 hr2
    have HO2 := (((Only.refl (fun k => k = b) w).alloc _).alloc _).drew.trans ho2
    clear hr2 ho2 hB
    go_wp2
    refine bodyPost_ret (v := ptV ptNo) (by simp [results, Tryz.results156, go_sem, ptV, ptNo, c0, c1, c2]; rfl) rfl ⟨rfl, ?_, ?_⟩
    · exact Box.only (X := fun k => k = w.heap.size) HR2.out (by repeat (first | exact Only.refl _ _ | refine Only.drew ?_ | refine Only.alloc ?_ _ | refine Only.set_at ?_ _ _)) (by omega)
    · repeat (first | exact HO2 | refine Only.drew ?_ | refine Only.alloc ?_ _ | refine Only.set_new ?_ _ _ (Nat.le_refl _))

end Go.Proofs.YtafjaljiliddnaaGreatDoor

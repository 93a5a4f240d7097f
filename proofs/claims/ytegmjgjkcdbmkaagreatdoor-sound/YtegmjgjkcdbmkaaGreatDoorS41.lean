/- One of the texts of the proof: ShC. -/
import Derived.Test.YtegmjgjkcdbmkaaGreatDoorS37
namespace Go.Proofs.YtegmjgjkcdbmkaaGreatDoor
open Go.RowKit
theorem lF(W)(c:laidMetH Tryz.prog Rows.closedRow.laid W):jT W.heap.size W:=by
 rw [Go.MakeChecks.laidMetH_plain _ _ _ (by kernel_rfl)] at c;have b:=c.tail.tail;rw [Tryz.kdP10] at b;have a:=Lib.tabIs_of_head Tryz.kgP10 Tryz.kgP10Type Tryz.underlying283 Tryz.underlying244 Tryz.kcU64 Tryz.kcP10 b;intro V d;refine Zp V ?_;unfold Lib.TabIs World.var? at a⊢;rw [Tryz.kgP10] at a⊢;simp only [Option.bind_some] at a⊢;have e:2<W.heap.size:=by
  rcases Nat.lt_or_ge 2 W.heap.size with q | q
  ·exact q
  ·rw [Array.getElem?_eq_none q] at a;cases a
 rw [d _ e];exact a
end Go.Proofs.YtegmjgjkcdbmkaaGreatDoor

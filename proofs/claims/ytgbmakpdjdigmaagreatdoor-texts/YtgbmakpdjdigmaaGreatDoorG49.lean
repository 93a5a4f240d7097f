/- TxF: told at each. -/
import Derived.Test.YtgbmakpdjdigmaaGreatDoorRows
import Derived.Test.YtgbmakpdjdigmaaGreatDoorG48
import Derived.ProofKit
import Derived.Stop.Joined
import Derived.Stop.LaidErr
import Derived.MakeChecks

/- What the row's list of laid variables gives: field's contract. -/
namespace Go.Proofs.YtgbmakpdjdigmaaGreatDoor
open Go.RowKit

theorem Tryz.gES : Tryz.prog.globalNamed "strconv.ErrSyntax" = some 4 := by kernel_rfl
theorem Tryz.gESType : (Tryz.prog.globals[4]?).map (·.type) = some 246 := by kernel_rfl
theorem Tryz.cellsES : Tryz.prog.cellsOf 385 = 1 := by kernel_rfl
theorem Tryz.cellsStr : Tryz.prog.cellsOf 9 = 1 := by kernel_rfl
theorem Tryz.star : "*" ++ "errors.errorString" = "*errors.errorString" := by decide
theorem Tryz.rowES (u : TypeId) (h : Tryz.prog.typeName? 3 u = some "*errors.errorString") : u = 383 :=
  typeName_ptr_named (nm := "errors.errorString") (by rw [Tryz.star]; kernel_rfl) (by kernel_rfl) (by decide) u (by rw [Tryz.star]; exact h)

/-- What the row's list gives of strconv.ErrSyntax: field's contract. -/
theorem field_laid (W : World) (hL : laidMetH Tryz.prog Rows.textsRow.laid W) : FieldOk W.heap.size W := by
  rw [Go.MakeChecks.laidMetH_plain _ _ _ (by kernel_rfl)] at hL
  obtain ⟨a0, s0, hv0, -, -, -⟩ := laid_sentinel hL.tail.tail.tail.tail Tryz.gES Tryz.gESType Tryz.underlying246 Tryz.rowES Tryz.underlying383 Tryz.underlying385 rfl rfl Tryz.underlying9 Tryz.cellsES Tryz.cellsStr
  have hc : W.cell? ⟨4, 0, none⟩ = some (.iface 383 (.pointer (some a0))) := by have h0 := World.var?_cell Tryz.gES hv0 0; simpa using h0
  have hlt : 4 < W.heap.size := by
    rcases Nat.lt_or_ge 4 W.heap.size with q | q
    · exact q
    · have : W.heap[4]? = none := by simp; exact q
      unfold World.cell? at hc
      rw [this] at hc
      cases hc
  exact field_any W.heap.size W hlt _ hc (.inr ⟨_, _, rfl⟩)

end Go.Proofs.YtgbmakpdjdigmaaGreatDoor

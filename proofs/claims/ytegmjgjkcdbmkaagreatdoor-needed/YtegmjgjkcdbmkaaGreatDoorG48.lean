/- One of the texts of the proof: CuD. -/
import Derived.Test.YtegmjgjkcdbmkaaGreatDoorG42
namespace Go.Proofs.YtegmjgjkcdbmkaaGreatDoor
open Go.ChangeShapes Go.WideShapes Go.ChangeAt Go.RowKit
theorem Tryz.laidOut:laidOutB Tryz.prog=true:=by kernel_rfl
section
variable {H : Type} {k : TypeId × Value → H} {W : World}
end
end Go.Proofs.YtegmjgjkcdbmkaaGreatDoor

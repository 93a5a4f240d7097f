/- One of the texts of the proof: MaA. -/
import Derived.Test.YtegmjgjkcdbmkaaGreatDoorG13
namespace Go.Proofs.YtegmjgjkcdbmkaaGreatDoor
open Go.RowKit Go.Maps
theorem ZT:laidOutB Tryz.prog=true:=by kernel_rfl
end Go.Proofs.YtegmjgjkcdbmkaaGreatDoor

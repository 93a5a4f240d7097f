/- One of the texts of the proof: ShA ShB. -/
import Derived.Test.YtegmjgjkcdbmkaaGreatDoorG24
import Derived.Test.YtegmjgjkcdbmkaaGreatDoorRows
import Derived.ProofKit
import Derived.Stop.Joined
import Derived.Stop.LaidErr
import Derived.MakeChecks
import Derived.Lib.LaidTab
set_option maxRecDepth 100000
set_option maxHeartbeats 1000000
namespace Go.Proofs.YtegmjgjkcdbmkaaGreatDoor
open Go.RowKit
theorem Tryz.kgES:Tryz.prog.globalNamed "strconv.ErrSyntax" =some 4:=by kernel_rfl
theorem Tryz.kgESType:(Tryz.prog.globals[4]?).map (·.type)=some 170:=by kernel_rfl
theorem Tryz.kcES:Tryz.prog.cellsOf 304=1:=by kernel_rfl
theorem Tryz.kcStr:Tryz.prog.cellsOf 9=1:=by kernel_rfl
theorem Tryz.kstar: "*" ++ "errors.errorString" = "*errors.errorString" :=by decide
theorem Tryz.krES(u)(h:Tryz.prog.typeName? 3 u=some "*errors.errorString"):u=302:=
 typeName_ptr_named (nm:= "errors.errorString") (by rw [Tryz.kstar];kernel_rfl) (by kernel_rfl) (by decide) u (by rw [Tryz.kstar];exact h)
theorem Jq{W:World}{g:Nat}{v:Value}(a:W.cell? ⟨g,0,none⟩=some v):g<W.heap.size:=by
 rcases Nat.lt_or_ge g W.heap.size with q | q
 ·exact q
 ·have:W.heap[g]? =none:=by simp;exact q
  unfold World.cell? at a;rw [this] at a;cases a
theorem PU(W)(a:laidMetH Tryz.prog Rows.closedRow.laid W):Cf W.heap.size W:=by
 rw [Go.MakeChecks.laidMetH_plain _ _ _ (by kernel_rfl)] at a;obtain ⟨c,f,e,-,-,-⟩:=laid_sentinel a.tail.tail.tail.tail Tryz.kgES Tryz.kgESType Tryz.underlying170 Tryz.krES Tryz.underlying302 Tryz.underlying304 rfl rfl Tryz.underlying9 Tryz.kcES Tryz.kcStr;have b:W.cell? ⟨4,0,none⟩=some (.iface 302 (.pointer (some c))):=by have d:=World.var?_cell Tryz.kgES e 0;simpa using d
 exact Sx W.heap.size W (Jq b) _ b (.inr ⟨_,_,rfl⟩)
theorem Tryz.kgP10:Tryz.prog.globalNamed "internal/strconv.uint64pow10" =some 2:=by kernel_rfl
theorem Tryz.kgP10Type:(Tryz.prog.globals[2]?).map (·.type)=some 283:=by kernel_rfl
theorem Tryz.kcU64:Tryz.prog.cellsOf 244=1:=by kernel_rfl
theorem Tryz.kcP10:Tryz.prog.cellsOf 283=20:=by kernel_rfl
theorem Tryz.kdP10:(Rows.laid_internal_strconv_uint64pow10:DataW Unit)=Lib.tabData .u64 Lib.pow10Tab:=by kernel_rfl
theorem SI(W)(b:laidMetH Tryz.prog Rows.closedRow.laid W):ItOk W:=by rw [Go.MakeChecks.laidMetH_plain _ _ _ (by kernel_rfl)] at b;have a:=b.tail.tail;rw [Tryz.kdP10] at a;exact Zp W (Lib.tabIs_of_head Tryz.kgP10 Tryz.kgP10Type Tryz.underlying283 Tryz.underlying244 Tryz.kcU64 Tryz.kcP10 a)
def Yi:List Int:=Lib.deBruijn64tab.map fun n:Nat=>(n:Int)
theorem Tryz.gTz:Tryz.prog.globalNamed "math/bits.deBruijn64tab" =some 0:=by kernel_rfl
theorem Tryz.gTzType:(Tryz.prog.globals[0]?).map (·.type)=some 267:=by kernel_rfl
theorem Tryz.cellsU8:Tryz.prog.cellsOf 5=1:=by kernel_rfl
theorem Tryz.cellsTz:Tryz.prog.cellsOf 267=64:=by kernel_rfl
theorem Tryz.dataTz:(Rows.laid_math_bits_deBruijn64tab:DataW Unit)=Lib.tabData .u8 Yi:=by kernel_rfl
theorem LV(W)(b:laidMetH Tryz.prog Rows.closedRow.laid W):JL W∧0<W.heap.size:=by
 rw [Go.MakeChecks.laidMetH_plain _ _ _ (by kernel_rfl)] at b;have a:=b.tail;rw [Tryz.dataTz] at a;have f:=Lib.tabIs_of_head Tryz.gTz Tryz.gTzType Tryz.underlying267 Tryz.underlying5 Tryz.cellsU8 Tryz.cellsTz a;have c:∀j,j<Lib.deBruijn64tab.length→W.cell? ⟨0,j,none⟩=some (.int .u8 (Lib.deBruijn64tab.getD j 0)):=fun j e=>by have d:=World.var?_cell Tryz.gTz f j;rw [d];simp [Yi,e]
 exact ⟨c,Jq (c 0 (by decide))⟩
theorem Zh:RZ:=by intro s W d;have c:=Aa (Tryz.stringslite_Clone s);go_enter Tryz.func102,Tryz.ntmps102;go_wp2_with fail;refine (c.o _ (by omega)).mono ?_;rintro e f ⟨rfl,a⟩;have b:=Aa (GP a);clear a;go_wp2_with fail;go_ret;exact ⟨rfl,b.o⟩
theorem Xd(W:World)(a:laidMetH Tryz.prog Rows.closedRow.laid W):Nf W.heap.size W W:=
 ⟨PU W a,Zh,Xw YV,SI W a,(LV W a).1,(LV W a).2,Below.refl _ _,Nat.le_refl _⟩
end Go.Proofs.YtegmjgjkcdbmkaaGreatDoor

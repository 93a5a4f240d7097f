/- One of the texts of the proof: RmA ShA ShB. -/
import Derived.Test.YtegmjgjkcdbmkaaGreatDoorS36
import Derived.Test.YtegmjgjkcdbmkaaGreatDoorRows
import Derived.ProofKit
import Derived.Stop.Joined
import Derived.Stop.LaidErr
import Derived.MakeChecks
import Derived.Lib.LaidTab
set_option maxRecDepth 100000
set_option maxHeartbeats 2000000
namespace Go.Proofs.YtegmjgjkcdbmkaaGreatDoor
open Go.RowKit
theorem mR(h:Nat)(x:World)(I:jT h x)(a:List TF)(G:GoodP a)(B:Nat)(d:Value)(p i:Nat)(c:ByteArray)(b:Int)(w:World)(O:Bh B w d (Bu (DU a) a 0 0))(F:B≤w.heap.size)(S:h≤B)(H:∀k,k<h→w.heap[k]? =x.heap[k]?):
 Calls Tryz.prog 38 #[.agg #[d,.int .i64 (vx (DU a) EA:Nat),.int .i64 p,.int .i64 i],.string c,.int .i64 b] w fun e g=>∃v l,e=.returned (.agg #[.int .i64 ((gY (Bu (DU a) a 0 0) (vx (DU a) EA) (UL b) c.data.toList).1.bM:Nat),.int .i64 ((UL b-(gY (Bu (DU a) a 0 0) (vx (DU a) EA) (UL b) c.data.toList).2:Nat):Int),v])∧Au B g v l∧
  iV (Bu (DU a) a 0 0) l (gY (Bu (DU a) a 0 0) (vx (DU a) EA) (UL b) c.data.toList).1.c.cU (gY (Bu (DU a) a 0 0) (vx (DU a) EA) (UL b) c.data.toList).1.c.bN∧(gY (Bu (DU a) a 0 0) (vx (DU a) EA) (UL b) c.data.toList).1.c.cU.length+(gY (Bu (DU a) a 0 0) (vx (DU a) EA) (UL b) c.data.toList).1.c.bN.length≤140000∧Below B w g:=by
 have M:=Ff (fn:=DU a) a 0 0;have N:vx (DU a) EA<(Bu (DU a) a 0 0).length:=by have:=(O8 (l:=DU a) (s:=EA) G.bP.main).1;rw [M];simpa [DU] using this
 refine (nY B d (vx (DU a) EA) p i (Bu (DU a) a 0 0) c b w O G.cQ F N (fun l u r=>iV (Bu (DU a) a 0 0) l u r∧u.length+r.length≤140000) (fun P Q y m W J K t o L=>?_)).mono ?_
 ·refine (mS P Q y B d _ p i (Bu (DU a) a 0 0) m W J K G.cQ G.cX (I W (fun k q=>by rw [L k (by omega),H k q])) YV o.pt o.en (by have:=t.pl;omega) (by omega)).mono ?_;rintro e g ⟨v,l,T,R,rfl,j,f,n,z,A,C,D,E⟩;exact ⟨v,l,rfl,j,⟨oW G.dA o f n z A C D,by have:=t.pl;omega⟩,E⟩
 ·rintro e g ⟨v,l,rfl,j,f,n⟩;exact ⟨v,l,rfl,j,f.1,f.2,n⟩
theorem jY(A:Nat)(O:World)(hI:jT A O)(s r:ByteArray)(m:Int)(b:List TF)(N:Nat)(G:GoodP b)(hT:∀t,t∈b→∀u,u∈t.v8→Na 4000 u)(w:World)(hG:Below A O w)(hB:A≤w.heap.size)
 (hR:Calls Tryz.prog 36 #[.string s] (w.alloc (.cells pF 53)) fun e x=>∃(g n Z:Nat) (a:Option Addr) (l c:Nat) (U:Nat→Prop),e=.returned (.tuple #[.slice (some ⟨g,0,none⟩) n Z,.agg #[.slice a l c,.int .i64 N],.int .i64 0,.int .i64 0])∧Di 4000 U x (.slice a l c) b∧(∀k,U k→k<x.heap.size)∧Below (w.alloc (.cells pF 53)).heap.size (w.alloc (.cells pF 53)) x):
 Calls Tryz.prog 17 #[.string s,.string r,.int .i64 m] w fun e x=>∃d h f l,e=.returned (.tuple #[.agg #[.int .i64 ((gY (Bu (DU b) b 0 0) (vx (DU b) EA) (UL m) r.data.toList).1.bM:Nat),.int .i64 ((UL m-(gY (Bu (DU b) b 0 0) (vx (DU b) EA) (UL m) r.data.toList).2:Nat):Int),.slice d h f],.int .i64 0,.int .i64 0])∧Au w.heap.size x (.slice d h f) l∧
  iV (Bu (DU b) b 0 0) l (gY (Bu (DU b) b 0 0) (vx (DU b) EA) (UL m) r.data.toList).1.c.cU (gY (Bu (DU b) b 0 0) (vx (DU b) EA) (UL m) r.data.toList).1.c.bN∧(gY (Bu (DU b) b 0 0) (vx (DU b) EA) (UL m) r.data.toList).1.c.cU.length+(gY (Bu (DU b) b 0 0) (vx (DU b) EA) (UL m) r.data.toList).1.c.bN.length≤140000∧Below w.heap.size w x:=by
 have Q:=Aa hR;have HG:=Aa hG;have HI:=Aa hI;have b3:=Aa G;have b5:=Aa (G.cY hT);clear hR hG hI G hT;obtain ⟨S,H⟩:∃S,gY (Bu (DU b) b 0 0) (vx (DU b) EA) (UL m) r.data.toList=S:=⟨_,rfl⟩;rw [H];have HS:=Aa H;clear H;obtain ⟨i,J⟩:∃n,S.1.bM=n:=⟨_,rfl⟩;obtain ⟨p,z⟩:∃n,UL m-S.2=n:=⟨_,rfl⟩;rw [J,z];have a9:=Aa J;have b8:=Aa z;clear J z;generalize a4:(fun (e:Ending) (x:World)=>∃d h f l,e=.returned (.tuple #[.agg #[.int .i64 (i:Nat),.int .i64 (p:Nat),.slice d h f],.int .i64 0,.int .i64 0])∧Au w.heap.size x (.slice d h f) l∧iV (Bu (DU b) b 0 0) l S.1.c.cU S.1.c.bN∧S.1.c.cU.length+S.1.c.bN.length≤140000∧Below w.heap.size w x)=Po;have HP:=Aa a4;clear a4;go_enter Tryz.func17,Tryz.ntmps17;go_wp2_with fail;refine Q.o.mono ?_;rintro e P ⟨g,n,Z,a,l,c,U,rfl,a5,hu,D⟩;have hz:=D.size;simp at hz;have a0:=Aa (((Below.refl w.heap.size w).alloc (rN _) (.cells pF 53)).trans (D.mono (by simp)));have F:Ak w.heap.size pF 53 P:=by show P.heap[w.heap.size]? =_;rw [D.block _ (by simp)];exact heap_alloc_new w _
 have a6:=Aa F;have b6:=Aa a5;have b9:=Aa hu;have j:=Aa ((Ab.refl (fun _=>False) P).alloc (.cells #[.slice a l c,.int .i64 N] 82));have l2:=Ae F;clear D F Q a5 hu;go_wp2_with (first
  | (go_at_call 39;refine (Xn 4000 U (.slice a l c) b N _ (b6.o.O j.o (fun _ _ q=>q)) (fun k K=>by have:=b9.o k K;have:=j.o.size;omega) b5.o).mono ?_;rintro e w4 ⟨fv,rfl,a3,a2⟩;have b4:=Aa a3;have B:=Aa a2;clear a3 a2)
  | (go_at_call 38;refine (mR A O HI.o b b3.o _ fv _ _ r m w4 b4.o B.o.size (by have:=j.o.size;omega) (fun k K=>by rw [B.o.block k (by have:=j.o.size;omega) (fun q=>q),j.o.block k (by omega) (fun q=>q),a0.o.block k (by omega)];exact HG.o.block k K)).mono ?_;rw [HS.o,a9.o,b8.o];rintro e o ⟨v,ll,rfl,L,z,a1,I⟩;have a8:=Aa a1;clear a1;obtain ⟨d,h,f,rfl⟩:=Ad L;have R:=Aa L;have b7:=Aa z;have a7:=Aa I;have y:Ak w.heap.size pF 53 o:=(by show o.heap[w.heap.size]? =_;rw [I.block _ (by have:=j.o.size;omega)];exact (a6.o.O j.o (fun q=>q)).O B.o (fun q=>q));have E:=Aa y;have T:=y.cell 0;have V:=y.cell 1;have W:=y.cell 2;have bf:=y.frozen;simp only [dM,dJ,dK] at T V W;clear L z I y))
 have X:Ak w.heap.size #[.int .i64 (i:Nat),.int .i64 0,.slice none 0 0] 53 (o.setCell ⟨w.heap.size,0,none⟩ (.int .i64 (i:Nat))):=E.o.set 0 _;have Y:Ak w.heap.size #[.int .i64 (i:Nat),.int .i64 (p:Nat),.slice none 0 0] 53 ((o.setCell ⟨w.heap.size,0,none⟩ (.int .i64 (i:Nat))).setCell ⟨w.heap.size,1,none⟩ (.int .i64 (p:Nat))):=X.set 1 _;have C:Ak w.heap.size #[.int .i64 (i:Nat),.int .i64 (p:Nat),.slice d h f] 53 (((o.setCell ⟨w.heap.size,0,none⟩ (.int .i64 (i:Nat))).setCell ⟨w.heap.size,1,none⟩ (.int .i64 (p:Nat))).setCell ⟨w.heap.size,2,none⟩ (.slice d h f)):=Y.set 2 _;have M:Ab (fun k=>k=w.heap.size) o (((o.setCell ⟨w.heap.size,0,none⟩ (.int .i64 (i:Nat))).setCell ⟨w.heap.size,1,none⟩ (.int .i64 (p:Nat))).setCell ⟨w.heap.size,2,none⟩ (.slice d h f)):=(((Ab.refl _ o).d8 0 _).d8 1 _).d8 2 _;have e0:=C.cell 0;have e1:=C.cell 1;have e2:=C.cell 2;simp only [dM,dJ,dK] at e0 e1 e2;have R9:dN (Au w.heap.size (((o.setCell ⟨w.heap.size,0,none⟩ (.int .i64 (i:Nat))).setCell ⟨w.heap.size,1,none⟩ (.int .i64 (p:Nat))).setCell ⟨w.heap.size,2,none⟩ (.slice d h f)) (.slice d h f) ll):=Ac (Ao R.o (by have:=j.o.size;omega)) M (Aj R.o E.o (by decide));have F9:dN (Below w.heap.size w (((o.setCell ⟨w.heap.size,0,none⟩ (.int .i64 (i:Nat))).setCell ⟨w.heap.size,1,none⟩ (.int .i64 (p:Nat))).setCell ⟨w.heap.size,2,none⟩ (.slice d h f))):=(a0.o.trans ((j.o.bL (by omega) (fun _ q=>q.elim)).trans ((B.o.bL (by have:=j.o.size;omega) (fun _ q=>q.elim)).trans (a7.o.mono (by have:=j.o.size;omega))))).trans (M.bL (by have:=Ae E.o;omega) (fun _ q=>by omega));clear X Y C M T V W bf;generalize (((o.setCell ⟨w.heap.size,0,none⟩ (.int .i64 (i:Nat))).setCell ⟨w.heap.size,1,none⟩ (.int .i64 (p:Nat))).setCell ⟨w.heap.size,2,none⟩ (.slice d h f))=W9 at*;refine bodyPost_ret (v:=.tuple #[.agg #[.int .i64 (i:Nat),.int .i64 (p:Nat),.slice d h f],.int .i64 0,.int .i64 0]) (by simp [results,Tryz.results17,go_sem,e0,e1,e2]) rfl ?_;have hp:=HP.o;subst hp;exact ⟨d,h,f,ll,rfl,R9.o,b7.o,a8.o,F9.o⟩
theorem Tryz.kgES:Tryz.prog.globalNamed "strconv.ErrSyntax" =some 4:=by kernel_rfl
theorem Tryz.kgESType:(Tryz.prog.globals[4]?).map (·.type)=some 170:=by kernel_rfl
theorem Tryz.kcES:Tryz.prog.cellsOf 304=1:=by kernel_rfl
theorem Tryz.kcStr:Tryz.prog.cellsOf 9=1:=by kernel_rfl
theorem Tryz.kstar: "*" ++ "errors.errorString" = "*errors.errorString" :=by decide
theorem Tryz.krES(u)(h:Tryz.prog.typeName? 3 u=some "*errors.errorString"):u=302:=
 typeName_ptr_named (nm:= "errors.errorString") (by rw [Tryz.kstar];kernel_rfl) (by kernel_rfl) (by decide) u (by rw [Tryz.kstar];exact h)
theorem Jq{W:World}{g:Nat}{v:Value}(a:W.cell? ⟨g,0,none⟩=some v):g<W.heap.size:=by
 rcases Nat.lt_or_ge g W.heap.size with q | q
 ·exact q
 ·have:W.heap[g]? =none:=by simp;exact q
  unfold World.cell? at a;rw [this] at a;cases a
theorem PU(W)(a:laidMetH Tryz.prog Rows.closedRow.laid W):Cf W.heap.size W:=by
 rw [Go.MakeChecks.laidMetH_plain _ _ _ (by kernel_rfl)] at a;obtain ⟨c,f,e,-,-,-⟩:=laid_sentinel a.tail.tail.tail.tail Tryz.kgES Tryz.kgESType Tryz.underlying170 Tryz.krES Tryz.underlying302 Tryz.underlying304 rfl rfl Tryz.underlying9 Tryz.kcES Tryz.kcStr;have b:W.cell? ⟨4,0,none⟩=some (.iface 302 (.pointer (some c))):=by have d:=World.var?_cell Tryz.kgES e 0;simpa using d
 exact Sx W.heap.size W (Jq b) _ b (.inr ⟨_,_,rfl⟩)
theorem Tryz.kgP10:Tryz.prog.globalNamed "internal/strconv.uint64pow10" =some 2:=by kernel_rfl
theorem Tryz.kgP10Type:(Tryz.prog.globals[2]?).map (·.type)=some 283:=by kernel_rfl
theorem Tryz.kcU64:Tryz.prog.cellsOf 244=1:=by kernel_rfl
theorem Tryz.kcP10:Tryz.prog.cellsOf 283=20:=by kernel_rfl
theorem Tryz.kdP10:(Rows.laid_internal_strconv_uint64pow10:DataW Unit)=Lib.tabData .u64 Lib.pow10Tab:=by kernel_rfl
theorem SI(W)(b:laidMetH Tryz.prog Rows.closedRow.laid W):ItOk W:=by rw [Go.MakeChecks.laidMetH_plain _ _ _ (by kernel_rfl)] at b;have a:=b.tail.tail;rw [Tryz.kdP10] at a;exact Zp W (Lib.tabIs_of_head Tryz.kgP10 Tryz.kgP10Type Tryz.underlying283 Tryz.underlying244 Tryz.kcU64 Tryz.kcP10 a)
def Yi:List Int:=Lib.deBruijn64tab.map fun n:Nat=>(n:Int)
theorem Tryz.gTz:Tryz.prog.globalNamed "math/bits.deBruijn64tab" =some 0:=by kernel_rfl
theorem Tryz.gTzType:(Tryz.prog.globals[0]?).map (·.type)=some 267:=by kernel_rfl
theorem Tryz.cellsU8:Tryz.prog.cellsOf 5=1:=by kernel_rfl
theorem Tryz.cellsTz:Tryz.prog.cellsOf 267=64:=by kernel_rfl
theorem Tryz.dataTz:(Rows.laid_math_bits_deBruijn64tab:DataW Unit)=Lib.tabData .u8 Yi:=by kernel_rfl
theorem LV(W)(b:laidMetH Tryz.prog Rows.closedRow.laid W):JL W∧0<W.heap.size:=by
 rw [Go.MakeChecks.laidMetH_plain _ _ _ (by kernel_rfl)] at b;have a:=b.tail;rw [Tryz.dataTz] at a;have f:=Lib.tabIs_of_head Tryz.gTz Tryz.gTzType Tryz.underlying267 Tryz.underlying5 Tryz.cellsU8 Tryz.cellsTz a;have c:∀j,j<Lib.deBruijn64tab.length→W.cell? ⟨0,j,none⟩=some (.int .u8 (Lib.deBruijn64tab.getD j 0)):=fun j e=>by have d:=World.var?_cell Tryz.gTz f j;rw [d];simp [Yi,e]
 exact ⟨c,Jq (c 0 (by decide))⟩
theorem Zh:RZ:=by intro s W d;have c:=Aa (Tryz.stringslite_Clone s);go_enter Tryz.func102,Tryz.ntmps102;go_wp2_with fail;refine (c.o _ (by omega)).mono ?_;rintro e f ⟨rfl,a⟩;have b:=Aa (GP a);clear a;go_wp2_with fail;go_ret;exact ⟨rfl,b.o⟩
theorem Xd(W:World)(a:laidMetH Tryz.prog Rows.closedRow.laid W):Nf W.heap.size W W:=
 ⟨PU W a,Zh,Xw YV,SI W a,(LV W a).1,(LV W a).2,Below.refl _ _,rN _⟩
end Go.Proofs.YtegmjgjkcdbmkaaGreatDoor

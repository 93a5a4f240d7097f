/- Part of the proof: ClO TxK. -/
import Derived.Test.YtaningfhibkemaaGreatDoorG28
set_option maxRecDepth 100000
set_option maxHeartbeats 1000000
namespace Go.Proofs.YtaningfhibkemaaGreatDoor
open Go.RowKit Go.Proofs.Tryz
open Option renaming none->Z,some->T
open Value renaming int->G,slice->Y
open IntKind renaming i64->A
abbrev cD:ByteArray:=⟨#[102,110,32,109,97,105,110,40,41,123,118,97,114,32,112,59,112,61,38,112,46,51,59,125,35,32,120]⟩
abbrev cC:List UInt8:=[102,110,32,109,97,105,110,32,40,32,41,32,123,32,118,97,114,32,112,32,59,32,112,32,61,32,38,32,112,32,46,32,51,32,59,32,125]
theorem Yu:JO cD=(0,0,cC):=by decide+kernel
theorem Lh(n:Int)(w:World):Calls prog 10 #[G A n] w fun e a=>e=.returned (G A n)/\a=w:=by go_enter func10,ntmps10;go_wp2;go_ret;exact⟨rfl,rfl⟩
theorem Um(a:Nat)(c:World)(hF:Cj a c)(w:World)(g:Below a c w)(f:a<=w.heap.size):
 Calls prog 4 #[] w fun e j=>e=.returned (.bool true)/\Below w.heap.size w j:=by
 have d:=J (Qv a c hF cD (by unfold maxLen;decide) w g f);rw[Yu]at d;clear hF g f;go_enter func4,ntmps4;go_wp2_with fail;refine d.o.mono ?_;rintro e m ⟨⟨u,rfl,b⟩,h⟩;have k:(u.toList==({data:=#[102,110,32,109,97,105,110,32,40,32,41,32,123,32,118,97,114,32,112,32,59,32,112,32,61,32,38,32,112,32,46,32,51,32,59,32,125]}:ByteArray).toList)=true:=by rw[kC,kC,b];decide
 have l:(u.toList==cC)=true:=by rw[kC,b];decide
 have i:=J h;clear b h;go_wp2;go_ret;exact⟨rfl,i.o⟩
theorem aO:Q7:=by intro s d f;have c:=J (Tryz.stringslite_Clone s);go_enter func92,ntmps92;go_wp2_with fail;refine(c.o _ (by omega)).mono ?_;rintro e g ⟨rfl,a⟩;have b:=J (CI a);clear a;go_wp2_with fail;go_ret;exact⟨rfl,b.o⟩

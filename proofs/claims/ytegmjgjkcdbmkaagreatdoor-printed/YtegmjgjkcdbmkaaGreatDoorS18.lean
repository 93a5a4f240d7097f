/- One of the texts of the proof: MbA. -/
import Derived.Test.YtegmjgjkcdbmkaaGreatDoorS17
set_option maxRecDepth 100000
set_option maxHeartbeats 4000000
namespace Go.Proofs.YtegmjgjkcdbmkaaGreatDoor
open Go.RowKit Go.Maps
def QE(P:List PFn)(i j:Nat):ByteArray:=(Ap P i).l8[j]?.getD ⟨#[]⟩
def GQ(P:List PFn)(t:Tg):List UInt8:=
 if t.kind=1 then Lib.decDigits t.aV++[46]++Lib.decDigits t.aX
 else if t.kind=2 then 64::(Ap P t.aV).name.data.toList
 else (Ap P t.aV).name.data.toList++[46]++(QE P t.aV t.aX).data.toList
def Kh(P:List PFn)(t:Tg):Prop:=(t.kind=0∧t.aV<P.length∧t.aX<(Ap P t.aV).l8.length)∨(t.kind=1∧t.aV≤4000∧t.aX≤3)∨(t.kind=2∧t.aV<P.length∧t.aX=0)
structure PnOk(P:List PFn):Prop where
 name:∀i,(Ap P i).name.size≤4000
 l8:∀i j,(QE P i j).size≤4000
def JR(n:Nat):ByteArray:=⟨(Lib.decDigits n).toArray⟩
def ItOk(w:World):Prop:=∀(n:Nat) (W:World),n≤4000→Ab (fun _=>False) w W→Calls Tryz.prog 89 #[.int .i64 n] W fun e a=>e=.returned (.string (JR n))∧Ab (fun _=>False) W a
theorem SY(B:Nat)(J:Value)(r v o:Nat)(P:List PFn)(t:Tg)(w:World)(i:Bh B w J P)(k:Ms P)(g:PnOk P)(ht:Kh P t)(p:ItOk w)(W:0<P.length):
 Calls Tryz.prog 88 #[.agg #[J,.int .i64 r,.int .i64 v,.int .i64 o],.agg #[.int .i64 t.kind,.int .i64 t.aV,.int .i64 t.aX]] w fun e w'=>e=.returned (.string ⟨(GQ P t).toArray⟩)∧Ab (fun _=>False) w w':=by
 obtain ⟨A,y,rfl,b0⟩:=i.form W;have a7:=k.bA;rcases ht with ⟨b,h,D⟩ | ⟨b,h,D⟩ | ⟨b,h,_⟩
 ·have N:((t.kind:Int)==1)=false:=by simp [b]
  have k2:((t.kind:Int)==2)=false:=by simp [b]
  obtain ⟨vv,sv,c,d,j⟩:=i.get h;rw [←RC h] at c d j;obtain ⟨va,vl,vc,rfl⟩:=Ad d;have a3:=Aq d;subst a3;obtain ⟨f,rfl⟩:=AA d (by omega);have b3:=(d.lt f rfl).2;obtain ⟨sa,sc,rfl,_⟩:=j.form;have I:=d.cellAt t.aX (by omega);rw [List.getElem?_map,rU D] at I;simp only [Option.map_some] at I;have z:=c 0 (by decide);have T:=c 1 (by decide);have U:=c 2 (by decide);have V:=c 3 (by decide);simp only [MR,dJ,dK,Nat.add_zero] at z T U V;have a1:=g.name t.aV;have a2:=g.l8 t.aV t.aX;have a8:=k.l8 t.aV;have C:QE P t.aV t.aX=(Ap P t.aV).l8[t.aX]:=by unfold QE;rw [rU D];rfl
  have m:dN ((Ap P t.aV).name++{data:=#[46]}++(Ap P t.aV).l8[t.aX]=⟨(GQ P t).toArray⟩):=FN (by unfold GQ;rw [if_neg (by omega),if_neg (by omega),C];simp)
  rw [C] at a2;generalize (⟨(GQ P t).toArray⟩:ByteArray)=G at*;generalize (Ap P t.aV).l8[t.aX]=vt at*;generalize (Ap P t.aV).name=u at*;have a0:(t.aV:Int)<(P.length:Int):=by omega
  have a9:(t.aX:Int)<((Ap P t.aV).l8.length:Int):=by omega
  have L:¬(9223372036854775807<u.size+1):=by omega
  have Y:¬(9223372036854775807<u.size+1+vt.size):=by omega
  have g1:f≠w.heap.size:=by omega
  have g2:f≠w.heap.size+1:=by omega
  have g3:f≠w.heap.size+1+1:=by omega
  have g4:f<w.heap.size+1:=by omega
  have g5:f<w.heap.size+1+1:=by omega
  clear c d j i k g p C b;go_enter Tryz.func88,Tryz.ntmps88;go_wp2_with fail;go_region;go_wp2_with fail;go_ret;exact ⟨congrArg (fun s=>Ending.returned (Value.string s)) m.o,(by repeat (first | exact Ab.refl _ _ | refine Ab.drew ?_ | refine Ab.drewN ?_ _ | refine Ab.alloc ?_ _))⟩
 ·have N:((t.kind:Int)==1)=true:=by simp [b]
  have a5:(JR t.aV).size≤4001:=by have:=Hw t.aV;simp only [JR,ByteArray.size,List.size_toArray];omega
  have a6:(JR t.aX).size≤4:=by have:=Hw t.aX;simp only [JR,ByteArray.size,List.size_toArray];omega
  have m:dN (JR t.aV++{data:=#[46]}++JR t.aX=⟨(GQ P t).toArray⟩):=FN (by unfold GQ JR;rw [if_pos b];simp)
  have Z:t.aX≤4000:=by omega
  have F:=Aa p;generalize (⟨(GQ P t).toArray⟩:ByteArray)=G at*;have L:¬(9223372036854775807<(JR t.aV).size+1):=by omega
  have Y:¬(9223372036854775807<(JR t.aV).size+1+(JR t.aX).size):=by omega
  clear i k g p b;go_enter Tryz.func88,Tryz.ntmps88;go_wp2_with fail;have l:=Ak.new (w.alloc (.cells #[.slice (some ⟨A,0,none⟩) P.length y,.int .i64 r,.int .i64 v,.int .i64 o] 89)) #[.int .i64 t.kind,.int .i64 t.aV,.int .i64 t.aX] 179;have M:(w.alloc (.cells #[.slice (some ⟨A,0,none⟩) P.length y,.int .i64 r,.int .i64 v,.int .i64 o] 89)).heap.size=w.heap.size+1:=by simp
  rw [M] at l;have K:=((Ab.refl (fun _=>False) w).alloc (.cells #[.slice (some ⟨A,0,none⟩) P.length y,.int .i64 r,.int .i64 v,.int .i64 o] 89)).alloc (.cells #[.int .i64 t.kind,.int .i64 t.aV,.int .i64 t.aX] 179);have x:=Aa K;generalize World.alloc (World.alloc w _) _=R at*;have S:=l.cell 1;have H:=l.cell 2;have lb:=Ae l;simp only [dM,dJ,dK] at S H;have O:=True.intro;clear l M K;go_region_law (first
   | (go_simp;go_at_call 89;have _t:=O;refine (F.o _ _ (by omega) (x.o.trans ?_)).mono ?_;exact (by repeat (first | exact Ab.refl _ _ | refine Ab.drew ?_ | refine Ab.drewN ?_ _ | refine Ab.alloc ?_ _));rintro e Q ⟨rfl,n⟩;have E:=Aa (Ab.trans (X:=fun _=>False) (a:=R) (by repeat (first | exact Ab.refl _ _ | refine Ab.drew ?_ | refine Ab.drewN ?_ _ | refine Ab.alloc ?_ _)) n);have a4:Q.cell? ⟨w.heap.size+1,2,none⟩=some (.int .i64 t.aX):=(rM (E.o.block _ lb (fun q=>q))).trans H;clear n O;dsimp only)
   | (go_simp;go_at_call 89;refine (F.o _ _ Z (x.o.trans (E.o.trans ?_))).mono ?_;exact (by repeat (first | exact Ab.refl _ _ | refine Ab.drew ?_ | refine Ab.drewN ?_ _ | refine Ab.alloc ?_ _));rintro e w8 ⟨rfl,n⟩;have o8:=Aa (Ab.trans (X:=fun _=>False) (a:=Q) (by repeat (first | exact Ab.refl _ _ | refine Ab.drew ?_ | refine Ab.drewN ?_ _ | refine Ab.alloc ?_ _)) n);clear n;dsimp only))
  all_goals
   go_wp2_with fail;go_ret;exact ⟨congrArg (fun s=>Ending.returned (Value.string s)) m.o,(x.o.trans E.o).trans o8.o⟩
 ·have N:((t.kind:Int)==1)=false:=by simp [b]
  have k2:((t.kind:Int)==2)=true:=by simp [b]
  obtain ⟨vv,sv,c,d,j⟩:=i.get h;rw [←RC h] at c d j;have z:=c 0 (by decide);simp only [MR,dJ,Nat.add_zero] at z;have a1:=g.name t.aV;have m:dN ((⟨#[64]⟩:ByteArray)++(Ap P t.aV).name=⟨(GQ P t).toArray⟩):=FN (by unfold GQ;rw [if_neg (by omega),if_pos b];simp)
  generalize (⟨(GQ P t).toArray⟩:ByteArray)=G at*;generalize (Ap P t.aV).name=u at*;have a0:(t.aV:Int)<(P.length:Int):=by omega
  have L:¬(9223372036854775807<1+u.size):=by omega
  clear c d j i k g p b;go_enter Tryz.func88,Tryz.ntmps88;go_wp2_with fail;first | go_quiet (fail) | skip
  go_wp2_with fail;go_ret;exact ⟨congrArg (fun s=>Ending.returned (Value.string s)) m.o,(by repeat (first | exact Ab.refl _ _ | refine Ab.drew ?_ | refine Ab.drewN ?_ _ | refine Ab.alloc ?_ _))⟩
end Go.Proofs.YtegmjgjkcdbmkaaGreatDoor

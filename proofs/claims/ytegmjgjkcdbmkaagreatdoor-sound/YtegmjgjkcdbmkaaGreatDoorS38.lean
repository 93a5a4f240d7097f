/- One of the texts of the proof: PrN. -/
import Derived.Test.YtegmjgjkcdbmkaaGreatDoorS37
namespace Go.Proofs.YtegmjgjkcdbmkaaGreatDoor
open Go.RowKit
def qT(i:List Sm)(c:ByteArray)(b:Int)(w:World)(e:Ending)(h:World):Prop:=
 ∃a d g f l,Pe (fsOf i) a∧e=.returned (.tuple #[.agg #[.int .i64 ((gY (Bu fnL a 0 0) (vx fnL EA) (UL b) c.data.toList).1.bM:Nat),.int .i64 ((UL b-(gY (Bu fnL a 0 0) (vx fnL EA) (UL b) c.data.toList).2:Nat):Int),.slice d g f],.int .i64 0,.int .i64 0])∧Au w.heap.size h (.slice d g f) l∧
  iV (Bu fnL a 0 0) l (gY (Bu fnL a 0 0) (vx fnL EA) (UL b) c.data.toList).1.c.cU (gY (Bu fnL a 0 0) (vx fnL EA) (UL b) c.data.toList).1.c.bN∧GoodP a∧Ab (fun _=>False) w h
theorem oF{a b w}(h:Nf a b w)(p:jT a b)(s:ByteArray)(f:List Sm)(q:Z5 s f)(c:ByteArray)(g:Int):
 Calls Tryz.prog 17 #[.string s,.string c,.int .i64 g] w fun e m=>qT f c g w e m:=by
 obtain ⟨r,z,y,t,v⟩:=q;obtain ⟨d,D,k,i,n,o⟩:=TT a b h.fo s f r z y t v;have u:DU d=fnL:=(LS k).1;have x:Ab (fun _=>False) w (w.alloc (.cells pF 53)):=(Ab.refl _ w).alloc _;have j:=h.go x;have R:=jY a b p s c g d D i n w h.bl h.sz (o _ j.bl j.sz)
 rw [u] at R;refine R.mono ?_;rintro e m ⟨E,G,F,l,rfl,A,B,_,C⟩;exact ⟨d,E,G,F,l,k,rfl,A,B,i,GP C⟩
theorem PEq.tx{P a:List PFn}(E:PEq P a)(t:Tg):GQ a t=GQ P t:=by unfold GQ QE;rw [E.name,E.l8]
theorem nV{a:List Sm}{b c:List TF}(g:∀s,s∈a→s.In)(h:Pe (fsOf a) b)(e:Pe (fsOf a) c):PEq (Bu fnL b 0 0) (Bu fnL c 0 0):=
 kU 0 0 (fun q d s i=>by unfold fsOf at d;obtain ⟨f,_,rfl⟩:=List.mem_map.1 d;exact (g s (List.mem_filter.1 i).1).ok.kind) h e
end Go.Proofs.YtegmjgjkcdbmkaaGreatDoor

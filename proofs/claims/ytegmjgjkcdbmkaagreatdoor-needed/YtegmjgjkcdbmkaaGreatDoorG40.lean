/- One of the texts of the proof: FdA PrK. -/
import Derived.Test.YtegmjgjkcdbmkaaGreatDoorG18
import Derived.Test.YtegmjgjkcdbmkaaGreatDoorShelf
set_option maxRecDepth 100000
set_option maxHeartbeats 1000000
namespace Go.Proofs.YtegmjgjkcdbmkaaGreatDoor
open Go.RowKit
structure Za(s:ByteArray)(y:Sc):Prop where
 ok:TksOk s.size (AH s y)
 dE:DigOk (AH s y)
 len:(AH s y).length≤4001
 lex:C0 s s.size 0 []=.inr ((CC s s.size y).aU.map Ai)
 bG:((CC s s.size y).aU.map Ai).length+1=(AH s y).length
theorem Vf{s y}(d:s.size≤4000)(h:Aw s s.size 0 x0=.inr y):Za s y:=by
 have a:C0 s s.size 0 []=.inr ((CC s s.size y).aU.map Ai):=by rw [NS];have b:Aw s s.size 0 ⟨[],false,0,0⟩=.inr y:=h;rw [b];rfl
 have c:((CC s s.size y).aU.map Ai).length+1=(AH s y).length:=by simp [AH]
 have:=KG s s.size 0 [] _ (Nat.zero_le _) a;simp only [List.length_nil] at this;exact ⟨Qo h,JF h,by omega,a,c⟩
theorem Tryz.textOf(a s p w):(Instr.field 114 (.agg #[.int .i64 a,.string s,.int .i64 p]) 1).run Tryz.prog w=.ok (.string s) w:=by kernel_rfl
theorem Below.quiet{w a}(h:Below w.heap.size w a):Ab (fun _=>False) w a:=⟨h.os,h.tape,h.output,h.size,fun k b _=>h.block k b⟩
theorem Ux(t w b)(l:w.cell? ⟨4,0,none⟩=some b)(i:b=.nilIface∨∃n m,b=.iface n m)
 (k:t=⟨#[]⟩∨t=⟨#[48]⟩∨t=⟨#[49]⟩∨t=⟨#[50]⟩∨t=⟨#[51]⟩):
 Calls Tryz.prog 190 #[.string t] w fun e a=>∃x,e=.returned (.tuple #[.int .i64 (GE ⟨2,t,0⟩),x])∧Ab (fun _=>False) w a:=by
 have c:∀(d:Nat),t.size≤18→Lib.atoi t.data.toList=some (d:Int)→GE ⟨2,t,0⟩=d→Calls Tryz.prog 190 #[.string t] w fun e a=>∃x,e=.returned (.tuple #[.int .i64 (GE ⟨2,t,0⟩),x])∧Ab (fun _=>False) w a:=by intro d j h f;rw [f];refine (Tryz.strconv_Atoi t d j h w).mono ?_;rintro e a ⟨rfl,u,rfl⟩;exact ⟨_,rfl,Below.quiet (Lib.bytesWorld_below _ _ _)⟩
 rcases k with h | h | h | h | h
 ·have f:GE ⟨2,t,0⟩=0:=by subst h;decide+kernel
  rw [f];refine (Tryz.strconv_Atoi_err t (by subst h;decide) (by subst h;decide) b w l i).mono ?_;rintro e a ⟨N,rfl,_,_,g⟩;exact ⟨_,rfl,Below.quiet g⟩
 ·exact c 0 (by subst h;decide) (by subst h;decide) (by subst h;decide+kernel)
 ·exact c 1 (by subst h;decide) (by subst h;decide) (by subst h;decide+kernel)
 ·exact c 2 (by subst h;decide) (by subst h;decide) (by subst h;decide+kernel)
 ·exact c 3 (by subst h;decide) (by subst h;decide) (by subst h;decide+kernel)
theorem Vx{l i}(h:i<l.length):Ag l i∈l:=by unfold Ag;rw [List.getElem?_eq_getElem h];exact List.getElem_mem h
theorem TP{a x}(b:DigOk a)(d:x.next<a.length):
 (Ax a 2 x).a9=⟨#[]⟩∨(Ax a 2 x).a9=⟨#[48]⟩∨(Ax a 2 x).a9=⟨#[49]⟩∨(Ax a 2 x).a9=⟨#[50]⟩∨(Ax a 2 x).a9=⟨#[51]⟩:=by
 unfold Ax;split
 ·rename_i c;exact .inr (b _ (Vx d) c)
 ·exact .inl rfl
theorem Sx(l C)(L:4<l)(a)(B:C.cell? ⟨4,0,none⟩=some a)(s:a=.nilIface∨∃P O,a=.iface P O):Cf l C:=by
 intro b g n K x c w R o v d M;have i:=TP (x:=x) d.2.2.2 (by have:=d.2.1;omega);have r:GE (Ax c 2 x)=GE ⟨2,(Ax c 2 x).a9,0⟩:=rfl;rw [r];obtain ⟨t,f⟩:∃t,Ax c 2 x=t:=⟨_,rfl⟩;obtain ⟨y,k⟩:∃y,Af c n 2 x=y:=⟨_,rfl⟩;rw [f] at i;rw [f,k];have h:w.cell? ⟨4,0,none⟩=some a:=by rw [o.cell L];exact B
 have I:=Aa f;have J:=Aa k;have E:=Aa i;clear f k i r;go_enter Tryz.func189,Tryz.ntmps189;go_wp2_with fail;refine (AG b g n K 2 x c _ v d M).mono ?_;rw [I.o,J.o];rintro e Q ⟨rfl,A,j⟩;have p:Q.cell? ⟨4,0,none⟩=some a:=by have N:4<w.heap.size:=Lib.lt_of_cell h;rw [World.cell?_of_block (w:=w) (j.block 4 N (by omega))];exact h
 have H:=Aa A;have G:=Aa j;have D:=Aa p;have F:=Aa s;clear A j p v d s h B o;unfold Vy;have S:=Tryz.textOf t.kind t.a9 t.c9;go_wp2_with (go_at_call 190;refine (Ux t.a9 _ a D.o F.o E.o).mono ?_);rintro e T ⟨z,rfl,u⟩;have m:=Aa u;clear u;go_wp2;go_ret;exact ⟨rfl,H.o.O m.o (fun q=>q),G.o.trans (m.o.mono (fun _ _ q=>q.elim))⟩
end Go.Proofs.YtegmjgjkcdbmkaaGreatDoor

/- One of the texts of the proof: OrB. -/
import Derived.Test.YtegmjgjkcdbmkaaGreatDoorG44
import Derived.Test.YtegmjgjkcdbmkaaGreatDoorG24
import Derived.Test.YtegmjgjkcdbmkaaGreatDoorG52
import Derived.Deep.Upon
set_option maxRecDepth 100000
set_option maxHeartbeats 4000000
namespace Go.Proofs.YtegmjgjkcdbmkaaGreatDoor
open Go.RowKit Go.Maps
theorem Hm.take{g d:Nat}{c:List Ln}{w:World}(h:Hm g d c w)(j:g<w.heap.size)(k:Nat):Hm g d (c.take k) w:=by
 have e:∀i (a:i<(c.take k).length),∃h:i<c.length,(c.take k)[i]=c[i]:=fun i a=>⟨by rw [List.length_take] at a;omega,by simp⟩
 refine ⟨fun _=>j,fun i a=>?_,fun i a=>?_,fun i a=>?_,fun i a=>?_,fun i a=>?_,fun i a=>?_⟩;all_goals obtain ⟨b,f⟩:=e i a;rw [f]
 ·exact h.c0 i b
 ·exact h.c1 i b
 ·exact h.c2 i b
 ·exact h.c3 i b
 ·exact h.c4 i b
 ·exact h.c5 i b
theorem Hm.drop{g d:Nat}{c:List Ln}{w:World}(h:Hm g d c w)(j:g<w.heap.size)(k:Nat):Hm g (d+k*6) (c.drop k) w:=by
 have e:∀i (a:i<(c.drop k).length),∃h:k+i<c.length,(c.drop k)[i]=c[k+i]:=fun i a=>⟨by rw [List.length_drop] at a;omega,by simp⟩
 have o:∀i,d+k*6+i*6=d+(k+i)*6:=fun i=>by omega
 refine ⟨fun _=>j,fun i a=>?_,fun i a=>?_,fun i a=>?_,fun i a=>?_,fun i a=>?_,fun i a=>?_⟩;all_goals obtain ⟨b,f⟩:=e i a;rw [f,o]
 ·exact h.c0 _ b
 ·exact h.c1 _ b
 ·exact h.c2 _ b
 ·exact h.c3 _ b
 ·exact h.c4 _ b
 ·exact h.c5 _ b
end Go.Proofs.YtegmjgjkcdbmkaaGreatDoor

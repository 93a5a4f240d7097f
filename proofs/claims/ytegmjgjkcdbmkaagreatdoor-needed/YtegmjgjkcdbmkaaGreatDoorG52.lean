/- One of the texts of the proof: GrF. -/
import Derived.Test.YtegmjgjkcdbmkaaGreatDoorG05
namespace Go.Proofs.YtegmjgjkcdbmkaaGreatDoor
open Go.RowKit
theorem Wy.quiet{v b}{w d:World}(h:Wy v b w)(k:Ab (fun _=>False) w d):Wy v b d:=by obtain ⟨a,c,e,i,q⟩:=h;refine ⟨a,c,e,i,q.imp id ?_⟩;rintro ⟨g,j,f,r⟩;exact ⟨g,j,f,r.O k⟩
theorem Wy.get{a b c}{w:World}(h:Wy (.slice a b.length c) b w){i:Nat}(f:i<b.length):∃g d,a=some ⟨g,d,none⟩∧Hm g d b w∧g<w.heap.size:=by
 obtain ⟨l,m,e,_,q⟩:=h;have j:b≠[]:=fun z=>by rw [z] at f;simp at f
 rcases q with q | ⟨g,d,k,r⟩
 ·exact absurd q j
 ·simp only [Value.slice.injEq] at e;exact ⟨g,d,e.1.trans k,r,r.lt j⟩
end Go.Proofs.YtegmjgjkcdbmkaaGreatDoor

/- One of the texts of the proof: RnF. -/
import Derived.Test.YtegmjgjkcdbmkaaGreatDoorG12
namespace Go.Proofs.YtegmjgjkcdbmkaaGreatDoor
theorem gX(c n:Nat):Pm c n Uh:=.inl ⟨rfl,rfl⟩
theorem LJ.app{j:Nat}{m l:List Cl}(h:LJ j m)(g:∀i (c:i<l.length),Up (m.length+l.length) (m.length+i) l[i].nm∧l[i].v=Uh):LJ j (m++l):=by
 have e:(m++l).length=m.length+l.length:=List.length_append;refine ⟨fun i c=>?_,fun i c=>?_⟩
 ·rw [e] at c⊢;rw [List.getElem_append];split
  ·rename_i f;exact (h.nm i f).more (by omega)
  ·rename_i k;have:=(g (i-m.length) (by omega)).1;rw [show m.length+(i-m.length)=i by omega] at this;exact this
 ·rw [e] at c⊢;rw [List.getElem_append];split
  ·rename_i f;exact (h.vl i f).more (by omega)
  ·rename_i k;rw [(g (i-m.length) (by omega)).2];exact gX _ _
section
variable {a : List ByteArray} {b : List Nat} {X : List XF} (d : XOk a b X)
include d
end
end Go.Proofs.YtegmjgjkcdbmkaaGreatDoor

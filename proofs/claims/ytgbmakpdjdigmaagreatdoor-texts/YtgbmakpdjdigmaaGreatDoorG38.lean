/- RdQ: told at each. -/
import Derived.Test.YtgbmakpdjdigmaaGreatDoorG36
import Derived.Test.YtgbmakpdjdigmaaGreatDoorG37
import Derived.Test.YtgbmakpdjdigmaaGreatDoorG32
import Derived.Test.YtgbmakpdjdigmaaGreatDoorG33
import Derived.Test.YtgbmakpdjdigmaaGreatDoorG35

/- The reference's reader.stmt at every word: what it answers (rStmt), by induction on the fuel. -/
namespace Go.Proofs.YtgbmakpdjdigmaaGreatDoor
open Go.RowKit

theorem stPost_below {rb pb g n cap B : Nat} {U : Nat → Prop} {toks : List Tk} {fv sv : Value} {w : World} {r : Nat × St × List FS} {e : Ending} {w' : World} (h : stPost rb pb g n cap B (fun k => U k ∧ k < w.heap.size) toks fv sv w r e w') : stPost rb pb g n cap B U toks fv sv w r e w' := by
  obtain ⟨sv', U', h1, h2, h3, h4, h5, h6, h7, h8⟩ := h
  exact ⟨sv', fun k => U' k ∨ U k, fun k hk => .inr hk, fun k hk => hk.elim (fun q => (h2 k q).imp (fun q => q.1) id) .inl, h3, h4, h5, h6, h7.more (fun k hk => .inl hk), h8⟩

theorem stmt_all : ∀ f, StmtOk f := by
  intro f
  induction f using Nat.strongRecOn with
  | _ f ih =>
    intro rb pb g n cap B inn U toks fv sv x fs w hr ht hp hst hB hz hinv hb hf
    have hc := hinv.1
    have hn := ht.2.2
    have hfs : fs.length ≤ 4001 := by have := hinv.2.2.2.1; omega
    have hpl : x.pl ≤ 4001 := by have := hinv.2.1; omega
    have hca : x.ca ≤ 4001 := by have := hinv.2.2.1; omega
    obtain ⟨f', hf'⟩ : ∃ f', f = f' + 1 := ⟨f - 1, by omega⟩
    subst hf'
    have ih' : ∀ k, k ≤ f' → StmtOk k := fun k hk => ih k (by omega)
    by_cases h1 : wordOf (tokAt toks x.cur) = ifL
    · cases hd : nextB (eatS toks [125] (rStmts toks f' inn (eatS toks [123] (eatS toks [63] (eatS toks ifL x))) (fs ++ [zFS 0 0]) []).2.1).bad (tokAt toks (eatS toks [125] (rStmts toks f' inn (eatS toks [123] (eatS toks [63] (eatS toks ifL x))) (fs ++ [zFS 0 0]) []).2.1).cur) elseL with
      | true => exact (stmt_else f' ih' rb pb g n cap B inn (fun k => U k ∧ k < w.heap.size) toks fv sv x fs w hr ht hp hst.below hB hfs hc hz (fun k hk => hk.2) hinv hb hf h1 hd).mono (fun e w' h => stPost_below h)
      | false => exact (stmt_if f' ih' rb pb g n cap B inn (fun k => U k ∧ k < w.heap.size) toks fv sv x fs w hr ht hp hst.below hB hfs hc hz (fun k hk => hk.2) hinv hb hf h1 hd).mono (fun e w' h => stPost_below h)
    by_cases h2 : wordOf (tokAt toks x.cur) = whileL
    · exact (stmt_while f' ih' rb pb g n cap B inn (fun k => U k ∧ k < w.heap.size) toks fv sv x fs w hr ht hp hst.below hB hfs hc hz (fun k hk => hk.2) hinv hb hf h2).mono (fun e w' h => stPost_below h)
    by_cases h3 : wordOf (tokAt toks x.cur) = varL
    · exact stmt_var rb pb g n cap B inn U toks fv sv x fs w hr ht hp hst hB hfs hc hz f' h3
    by_cases h4 : wordOf (tokAt toks x.cur) = returnL
    · exact stmt_return rb pb g n cap B inn U toks fv sv x fs w hr ht hp hst hB hfs hc hz f' h4
    by_cases h5 : wordOf (tokAt toks x.cur) = [42]
    · exact stmt_star rb pb g n cap B inn U toks fv sv x fs w hr ht hp hst hB hfs hc hz f' h5
    exact stmt_set rb pb g n cap B inn U toks fv sv x fs w hr ht hp hst hB hfs hc hz f' h1 h2 h3 h4 h5 hpl hca

end Go.Proofs.YtgbmakpdjdigmaaGreatDoor

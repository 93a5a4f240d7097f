/- Plain mathematics for Cut: texts that are good (runA: letters a to z, at most 8 behind one another, marks, digits 0 to 3, blanks, ends of line), and the texts of made statements. No condition. -/
import Derived.Below
namespace Go.Proofs.YtafjaljiliddnaaGreatDoor

def letC (c : UInt8) : Bool := 97 ≤ c && c ≤ 122
def markC (c : UInt8) : Bool := c == 40 || c == 41 || c == 123 || c == 125 || c == 59 || c == 61 || c == 38 || c == 42 || c == 64 || c == 46 || c == 63
def blankC (c : UInt8) : Bool := c == 32 || c == 10
def digC (c : UInt8) : Bool := c == 48 || c == 49 || c == 50 || c == 51
/-- How many letters stand at the end, if all that was read is good; k: how many stand ahead. -/
def runA : Nat → List UInt8 → Option Nat
  | k, [] => some k
  | k, c :: t => if letC c then (if k < 8 then runA (k + 1) t else none) else if markC c || blankC c || digC c then runA 0 t else none

theorem runA_append (a b : List UInt8) : ∀ k, runA k (a ++ b) = (runA k a).bind (fun j => runA j b) := by
  induction a with
  | nil => intro k; rfl
  | cons c t ih =>
    intro k
    simp only [List.cons_append, runA]
    split
    · split
      · exact ih _
      · rfl
    · split
      · exact ih _
      · rfl
theorem runA_left {a b : List UInt8} {k j : Nat} (h : runA k (a ++ b) = some j) : ∃ i, runA k a = some i ∧ runA i b = some j := by
  rw [runA_append] at h
  cases hx : runA k a with
  | none => rw [hx] at h; cases h
  | some i => rw [hx] at h; exact ⟨i, rfl, h⟩
theorem runA_join {a b : List UInt8} {k i j : Nat} (h : runA k a = some i) (h' : runA i b = some j) : runA k (a ++ b) = some j := by
  rw [runA_append, h]; exact h'

/-- Variables' and functions' names. -/
def vnA : Nat → List UInt8
  | 0 => [97]
  | 1 => [98]
  | 2 => [99]
  | _ => [100]
def fnA : Nat → List UInt8
  | 0 => [109, 97, 105, 110]
  | 1 => [120]
  | 2 => [121]
  | _ => [122]
def digA (n : Nat) : List UInt8 := match n with
  | 0 => [48]
  | 1 => [49]
  | 2 => [50]
  | _ => [51]
/-- Arguments within parentheses. -/
def argA : List Nat → List UInt8
  | [] => [40, 41]
  | [a] => [40] ++ vnA a ++ [41]
  | a :: b :: _ => [40] ++ vnA a ++ [32] ++ vnA b ++ [41]
/-- A statement's text. -/
def stA (kind p q g k : Nat) (args : List Nat) : List UInt8 :=
  match kind with
  | 0 => vnA p ++ [32, 61, 32, 110, 101, 119, 59]
  | 1 => vnA p ++ [32, 61, 32, 38] ++ vnA q ++ [59]
  | 2 => vnA p ++ [32, 61, 32, 64] ++ fnA g ++ [59]
  | 3 => vnA p ++ [32, 61, 32] ++ vnA q ++ [59]
  | 4 => vnA p ++ [32, 61, 32, 38] ++ vnA q ++ [46] ++ digA k ++ [59]
  | 5 => vnA p ++ [32, 61, 32, 42] ++ vnA q ++ [59]
  | 6 => [42] ++ vnA p ++ [32, 61, 32] ++ vnA q ++ [59]
  | 7 => vnA p ++ [32, 61, 32] ++ fnA g ++ argA args ++ [59]
  | 8 => vnA p ++ [32, 61, 32, 40, 42] ++ vnA q ++ [41] ++ argA args ++ [59]
  | _ => [114, 101, 116, 117, 114, 110, 32] ++ vnA q ++ [59]

theorem vnA_run (v k : Nat) (h : k < 8) : runA k (vnA v) = some (k + 1) := by
  unfold vnA; split <;> simp [runA, letC, h]
theorem fnA_run (f : Nat) : ∃ j, j ≤ 4 ∧ runA 0 (fnA f) = some j := by
  unfold fnA
  split
  · exact ⟨4, by omega, rfl⟩
  all_goals exact ⟨1, by omega, rfl⟩
theorem digA_run (n k : Nat) : runA k (digA n) = some 0 := by
  unfold digA; split <;> rfl
theorem argA_run (l : List Nat) (k : Nat) : runA k (argA l) = some 0 := by
  have hv := vnA_run
  unfold argA
  split
  · rfl
  · exact runA_join (runA_join (i := 0) rfl (vnA_run _ 0 (by omega))) rfl
  · exact runA_join (runA_join (runA_join (runA_join (i := 0) rfl (vnA_run _ 0 (by omega))) (j := 0) rfl) (vnA_run _ 0 (by omega))) rfl
theorem stA_run (kind p q g k : Nat) (args : List Nat) : runA 0 (stA kind p q g k args) = some 0 := by
  have vv := fun v => vnA_run v 0 (by omega)
  obtain ⟨j, _, hf⟩ := fnA_run g
  unfold stA
  split
  · exact runA_join (vv p) rfl
  · exact runA_join (runA_join (runA_join (vv p) (j := 0) rfl) (vv q)) rfl
  · exact runA_join (runA_join (runA_join (vv p) (j := 0) rfl) hf) rfl
  · exact runA_join (runA_join (runA_join (vv p) (j := 0) rfl) (vv q)) rfl
  · exact runA_join (runA_join (runA_join (runA_join (runA_join (vv p) (j := 0) rfl) (vv q)) (j := 0) rfl) (digA_run _ _)) rfl
  · exact runA_join (runA_join (runA_join (vv p) (j := 0) rfl) (vv q)) rfl
  · exact runA_join (runA_join (runA_join (runA_join (i := 0) rfl (vv p)) (j := 0) rfl) (vv q)) rfl
  · exact runA_join (runA_join (runA_join (runA_join (vv p) (j := 0) rfl) hf) (argA_run _ _)) rfl
  · exact runA_join (runA_join (runA_join (runA_join (runA_join (vv p) (j := 0) rfl) (vv q)) (j := 0) rfl) (argA_run _ _)) rfl
  · exact runA_join (runA_join (i := 0) rfl (vv q)) rfl
theorem vnA_len (v : Nat) : (vnA v).length = 1 := by unfold vnA; split <;> rfl
theorem fnA_len (v : Nat) : (fnA v).length ≤ 4 := by unfold fnA; split <;> simp
theorem digA_len (v : Nat) : (digA v).length = 1 := by unfold digA; split <;> rfl
theorem argA_len (l : List Nat) : (argA l).length ≤ 5 := by unfold argA; split <;> simp [vnA_len]
theorem stA_len (kind p q g k : Nat) (args : List Nat) : (stA kind p q g k args).length ≤ 16 := by
  have h1 := fnA_len g
  have h2 := argA_len args
  unfold stA
  split <;> simp only [List.length_append, vnA_len, digA_len, List.length_cons, List.length_nil] <;> omega

/-- A statement's text within a block or none. -/
def wrA (b : Nat) (t : List UInt8) : List UInt8 :=
  match b with
  | 1 => [105, 102, 32, 63, 32, 123, 32] ++ t ++ [32, 125]
  | 2 => [105, 102, 32, 63, 32, 123, 32, 125, 32, 101, 108, 115, 101, 32, 123, 32] ++ t ++ [32, 125]
  | 3 => [119, 104, 105, 108, 101, 32, 63, 32, 123, 32] ++ t ++ [32, 125]
  | _ => t
theorem wrA_run (b : Nat) (t : List UInt8) (h : runA 0 t = some 0) : runA 0 (wrA b t) = some 0 := by
  unfold wrA
  split
  · exact runA_join (runA_join (i := 0) rfl h) rfl
  · exact runA_join (runA_join (i := 0) rfl h) rfl
  · exact runA_join (runA_join (i := 0) rfl h) rfl
  · exact h
theorem wrA_len (b : Nat) (t : List UInt8) : (wrA b t).length ≤ t.length + 18 := by
  unfold wrA
  split <;> simp <;> omega

end Go.Proofs.YtafjaljiliddnaaGreatDoor

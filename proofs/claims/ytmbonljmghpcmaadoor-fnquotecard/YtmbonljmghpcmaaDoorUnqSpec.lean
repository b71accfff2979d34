/- Unquote of the model. (made ahead of stage 12) -/
import Derived.Test.YtmbonljmghpcmaaDoorQuoteSpec
namespace Go.Proofs.YtmbonljmghpcmaaDoor
open Go.RowKit Go.Lib

/-- A digit's value, or -1. -/
def digC (c : Nat) : Int := if 48 ≤ c ∧ c ≤ 57 then (c : Int) - 48 else if 97 ≤ c ∧ c ≤ 102 then (c : Int) - 87 else -1
theorem digC_hex {v : Nat} (h : v < 16) : digC (hexC v) = (v : Int) := by unfold digC hexC; split <;> (split <;> (try split) <;> omega)
theorem digC_none {c : Nat} (h : ∀ v, v < 16 → hexC v ≠ c) : digC c = -1 := by
  unfold digC
  by_cases h1 : 48 ≤ c ∧ c ≤ 57
  · exact absurd (show hexC (c - 48) = c by unfold hexC; rw [if_pos (by omega)]; omega) (h (c - 48) (by omega))
  · rw [if_neg h1]
    by_cases h2 : 97 ≤ c ∧ c ≤ 102
    · exact absurd (show hexC (c - 87) = c by unfold hexC; rw [if_neg (by omega)]; omega) (h (c - 87) (by omega))
    · rw [if_neg h2]
theorem digC_range (c : Nat) : -1 ≤ digC c ∧ digC c ≤ 15 := by unfold digC; split <;> (try split) <;> omega

/-- What is unquoted from k on. -/
def unqF (s : ByteArray) : Nat → Nat → List Int → Option (List Int)
  | 0, _, _ => none
  | f + 1, k, acc =>
    if s.size ≤ k then some acc
    else if plainC (chr s k) = true then unqF s f (k + 1) (acc ++ [(chr s k : Int)])
    else if chr s k ≠ 37 ∨ s.size ≤ k + 2 then none
    else if digC (chr s (k + 1)) < 0 ∨ digC (chr s (k + 2)) < 0 ∨ plainC (digC (chr s (k + 1)) * 16 + digC (chr s (k + 2))).toNat = true then none
    else unqF s f (k + 3) (acc ++ [digC (chr s (k + 1)) * 16 + digC (chr s (k + 2))])
def unqR (s : ByteArray) : Option (List Int) := if s.toList = [37] then some [] else
  match unqF s (s.size + 1) 0 [] with
  | none => none
  | some acc => if acc.length = 0 ∨ 65536 < acc.length then none else some acc
abbrev unqO (g : Bool) (d : ByteArray) : Value := .agg #[.bool g, .string d]
def unqV (s : ByteArray) : Value := match unqR s with
  | none => unqO false ⟨#[]⟩
  | some acc => unqO true (strOfNums acc)

end Go.Proofs.YtmbonljmghpcmaaDoor

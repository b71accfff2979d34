/- DirRemove of the model. -/
import Derived.Test.YtkcijpmikgohcaaEntApp
import Derived.Deep.DeepCutAuto
namespace Go.Proofs.Ytkcijpmikgohcaa
open Go.RowKit

/-- What comes of place i. -/
def remAt (ts : List Ent) (at' : Int) (i : Nat) : List Ent :=
  if at' < 0 ∨ (ts.length : Int) ≤ at' then [ts.getD i Ent.none] else if i = ts.length - 1 then [] else if (i : Int) = at' then [ts.getD (ts.length - 1) Ent.none] else [ts.getD i Ent.none]
def remTo (ts : List Ent) (at' : Int) : Nat → List Ent
  | 0 => []
  | n + 1 => remTo ts at' n ++ remAt ts at' n
def remD (ts : List Ent) (at' : Int) : List Ent := remTo ts at' ts.length
theorem remTo_len (ts : List Ent) (at' : Int) (k : Nat) : (remTo ts at' k).length ≤ k := by
  induction k with
  | zero => exact Nat.le_refl _
  | succ k ih =>
    unfold remTo
    rw [List.length_append]
    have : (remAt ts at' k).length ≤ 1 := by
      unfold remAt
      split
      · simp
      · split
        · simp
        · split <;> simp
    omega

end Go.Proofs.Ytkcijpmikgohcaa

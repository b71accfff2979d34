/- FileNeed of the model. -/
import Derived.Test.YtbdkdfkhcmckhaaIntsP
import Derived.Deep.DeepCutAuto
namespace Go.Proofs.Ytbdkdfkhcmckhaa
open Go.RowKit

def hasI (xs : List Int) (j : Nat) : Bool := decide ((j : Int) ∈ xs)
def cntTo (p : Nat → Bool) : Nat → Nat
  | 0 => 0
  | k + 1 => cntTo p k + (if p k = true then 1 else 0)
def farTo (p : Nat → Bool) : Nat → Nat
  | 0 => 0
  | k + 1 => if p k = true ∧ 8 ≤ k then 1 else farTo p k
/-- All are places of a file's blocks. -/
abbrev InIdx (xs : List Int) : Prop := xs.length ≤ 100000 ∧ ∀ x ∈ xs, 0 ≤ x ∧ x < 40
def needD (xs : List Int) : Int := if InIdx xs then ((cntTo (hasI xs) 40 + farTo (hasI xs) 40 : Nat) : Int) else -1

theorem needD_in {xs : List Int} (h : InIdx xs) : needD xs = ((cntTo (hasI xs) 40 + farTo (hasI xs) 40 : Nat) : Int) := by unfold needD; rw [if_pos h]
theorem needD_out {xs : List Int} (h : ¬ InIdx xs) : needD xs = -1 := by unfold needD; rw [if_neg h]
theorem cntTo_le (p : Nat → Bool) (k : Nat) : cntTo p k ≤ k := by
  induction k with
  | zero => exact Nat.le_refl _
  | succ k ih => unfold cntTo; split <;> omega
theorem farTo_le (p : Nat → Bool) (k : Nat) : farTo p k ≤ 1 := by
  induction k with
  | zero => exact Nat.zero_le _
  | succ k ih => unfold farTo; split <;> omega

/-- The row: which places are among the first ones. -/
def hasRow (xs : List Int) : List Value := (List.range 40).map fun j => .bool (hasI xs j)
theorem hasRow_nil : hasRow [] = List.replicate 40 (.bool false) := by simp [hasRow, hasI, List.map_const']
theorem hasRow_len (xs : List Int) : (hasRow xs).length = 40 := by simp [hasRow]
theorem hasRow_get (xs : List Int) {j : Nat} (h : j < 40) : (hasRow xs)[j]? = some (.bool (hasI xs j)) := by simp [hasRow, h]
theorem hasRow_set (xs : List Int) {k m : Nat} (hk : k < xs.length) (he : xs.getD k 0 = (m : Int)) (hm : m < 40) : (hasRow (xs.take k)).set m (.bool true) = hasRow (xs.take (k + 1)) := by
  have hx : xs.getD k 0 = xs[k] := by simp [List.getD_eq_getElem?_getD, hk]
  refine List.ext_getElem? fun j => ?_
  by_cases hj : j < 40
  · rw [hasRow_get _ hj]
    by_cases e : m = j
    · subst e
      rw [List.getElem?_set_self (by rw [hasRow_len]; exact hm)]
      have : hasI (xs.take (k + 1)) m = true := by
        unfold hasI
        rw [decide_eq_true_eq, List.take_succ_eq_append_getElem hk, List.mem_append]
        right; rw [← hx, he]; simp
      rw [this]
    · rw [List.getElem?_set_ne e, hasRow_get _ hj]
      have : hasI (xs.take (k + 1)) j = hasI (xs.take k) j := by
        unfold hasI
        have hn : ¬ ((j : Int) = xs[k]) := by rw [← hx, he]; omega
        rw [decide_eq_decide, List.take_succ_eq_append_getElem hk, List.mem_append, List.mem_singleton]
        exact ⟨fun h => h.resolve_right hn, Or.inl⟩
      rw [this]
  · rw [List.getElem?_eq_none (by rw [List.length_set, hasRow_len]; omega), List.getElem?_eq_none (by rw [hasRow_len]; omega)]

theorem made1 (z : Value) (n : Nat) : (madeCells #[z] n).toList = List.replicate n z := by
  refine List.ext_getElem? fun j => ?_
  by_cases hj : j < n
  · simp [madeCells, hj, Nat.mod_one]
  · simp [madeCells, hj]

theorem Try.infoBool : (Try.prog.info? 4).map (fun i => (i.zero, i.size, i.bytes)) = some (some (.bool false), 1, 1) := by kernel_rfl

end Go.Proofs.Ytbdkdfkhcmckhaa

/- ValidInode of the model. -/
import Derived.Test.YtbdkdfkhcmckhaaInoSpec
import Derived.Test.YtbdkdfkhcmckhaaAppInts
namespace Go.Proofs.Ytbdkdfkhcmckhaa
open Go.RowKit

def goodI (x : Int) : Bool := decide (0 ≤ x) && decide (x < 2048)
theorem goodI_iff {x : Int} : goodI x = true ↔ 0 ≤ x ∧ x < 2048 := by unfold goodI; simp
/-- All its blocks. -/
def allI (i : Ino) : List Int := i.dir ++ [i.ind]
/-- Place k is as it must be. -/
def BodyAt (i : Ino) (k : Nat) : Prop := if i.size ≤ (k : Int) * 64 then (allI i).getD k 0 = 0 else i.kind = 1 ∨ (allI i).getD k 0 ≠ 0
def sumTo (xs : List Int) : Nat → Int
  | 0 => 0
  | k + 1 => sumTo xs k + xs.getD k 0
def InoHead (i : Ino) : Prop := i.dir.length = 8 ∧ 0 ≤ i.size ∧ i.size ≤ 2560 ∧ 0 ≤ i.links ∧ i.links ≤ 8
def InoRest (i : Ino) : Prop := (i.kind = 1 ∨ (i.kind = 2 ∧ i.links = 1 ∧ i.size % 16 = 0) ∨ (i.kind = 3 ∧ 1 ≤ i.size ∧ i.size ≤ 240)) ∧ (∀ k, k < 9 → BodyAt i k) ∧ (1 ≤ i.links ∨ i.kind = 1)
def InoP (i : Ino) : Prop := InoHead i ∧ (∀ x ∈ allI i, goodI x = true) ∧ if i.kind = 0 then i.size + i.links + sumTo (allI i) 9 = 0 else InoRest i
def inoB (i : Ino) : Bool := decide ((i.dir.length = 8 ∧ 0 ≤ i.size ∧ i.size ≤ 2560 ∧ 0 ≤ i.links ∧ i.links ≤ 8) ∧ (∀ x ∈ allI i, goodI x = true) ∧ if i.kind = 0 then i.size + i.links + sumTo (allI i) 9 = 0 else (i.kind = 1 ∨ (i.kind = 2 ∧ i.links = 1 ∧ i.size % 16 = 0) ∨ (i.kind = 3 ∧ 1 ≤ i.size ∧ i.size ≤ 240)) ∧ (∀ k : Nat, k < 9 → if i.size ≤ (k : Int) * 64 then (allI i).getD k 0 = 0 else i.kind = 1 ∨ (allI i).getD k 0 ≠ 0) ∧ (1 ≤ i.links ∨ i.kind = 1))
theorem inoB_iff {i : Ino} : inoB i = true ↔ InoP i := decide_eq_true_iff
theorem inoB_false {i : Ino} (h : ¬ InoP i) : inoB i = false := by rw [Bool.eq_false_iff]; exact fun e => h (inoB_iff.1 e)
theorem sumTo_bd {xs : List Int} (h : ∀ x ∈ xs, goodI x = true) : ∀ k, k ≤ xs.length → 0 ≤ sumTo xs k ∧ sumTo xs k ≤ 2048 * k := by
  intro k
  induction k with
  | zero => intro _; exact ⟨Int.le_refl _, Int.le_refl _⟩
  | succ k ih =>
    intro hk
    have h1 := ih (by omega)
    have h2 := goodI_iff.1 (h (xs.getD k 0) (by rw [List.getD_eq_getElem?_getD, List.getElem?_eq_getElem (by omega)]; exact List.getElem_mem (by omega)))
    unfold sumTo
    omega

end Go.Proofs.Ytbdkdfkhcmckhaa

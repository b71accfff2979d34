/- EncodePointers, DecodePointers of the model. -/
import Derived.Test.YtdfpllijijaeiaaAppSeen
import Derived.Test.YtdfpllijijaeiaaFlat
import Derived.Test.YtdfpllijijaeiaaGetN
import Derived.Test.YtdfpllijijaeiaaGoodBlk
import Derived.Deep.DeepCutAuto
namespace Go.Proofs.Ytdfpllijijaeiaa
open Go.RowKit

def goodP (x : Int) : Bool := decide (0 ≤ x) && decide (x < 2048)
theorem goodP_iff {x : Int} : goodP x = true ↔ 0 ≤ x ∧ x < 2048 := by unfold goodP; simp
abbrev GoodPs (xs : List Int) : Prop := xs.length = 32 ∧ ∀ x ∈ xs, goodP x = true
def encPs (xs : List Int) : List Int := xs.flatMap fun x => putN x 2
def encP (xs : List Int) : List Int := if GoodPs xs then encPs xs else []

theorem putN2_len {x : Int} (h : goodP x = true) : (putN x 2).length = 2 := by
  obtain ⟨h1, h2⟩ := goodP_iff.1 h
  unfold putN
  rw [if_neg (by omega), if_neg (by have : (256 : Int) ^ (2 : Int).toNat = 65536 := rfl; rw [this]; omega), digs_length]; rfl
theorem encPs_len {xs : List Int} (h : ∀ x ∈ xs, goodP x = true) : (encPs xs).length = 2 * xs.length := by
  unfold encPs
  induction xs with
  | nil => rfl
  | cons x r ih =>
    rw [List.flatMap_cons, List.length_append, putN2_len (h x (by simp)), ih (fun y hy => h y (by simp [hy])), List.length_cons]; omega
theorem encPs_take {xs : List Int} {k : Nat} (h : k < xs.length) : encPs (xs.take (k + 1)) = encPs (xs.take k) ++ putN (xs.getD k 0) 2 := by
  unfold encPs
  rw [List.take_succ_eq_append_getElem h, List.flatMap_append]
  simp [List.getD_eq_getElem?_getD, h]
theorem encP_len (xs : List Int) : (encP xs).length ≤ 64 := by
  unfold encP
  split
  · rename_i h; rw [encPs_len h.2, h.1]; exact Nat.le_refl _
  · simp

end Go.Proofs.Ytdfpllijijaeiaa

/- BitCount of the program. -/
import Derived.Test.YtfjkplihmcenbaaImplFirst
namespace Go.Proofs.Ytfjkplihmcenbaa
open Go.RowKit Go.Shelf
attribute [local go_sem] Oper.semAt_some

theorem runsL_len (ys : List Int) (E : Nat) : ∀ (k a : Nat), (runsL ys E k a).length ≤ k
  | 0, _ => Nat.le_refl _
  | k + 1, a => by
    unfold runsL
    split
    · have := runsL_len ys E k (nextAt ys true E (nextAt ys false E a)); simp only [List.length_cons]; omega
    · exact Nat.zero_le _
theorem lens_le : ∀ l : List Rn, lens l ≤ 16384 * l.length
  | [] => Nat.le_refl _
  | x :: l => by have := lens_le l; have := x.2.2; show x.1.2 + lens l ≤ 16384 * (l.length + 1); omega
theorem cutA_again {n A : Nat} (h : A ≤ 8 * n) : cutA n (A : Int) = A := by unfold cutA; omega
theorem cutE_again {n A E : Nat} (h : A ≤ E) (h' : E ≤ 8 * n) : cutE n (A : Int) (E : Int) = E := by unfold cutE; rw [cutA_again (by omega)]; omega

end Go.Proofs.Ytfjkplihmcenbaa

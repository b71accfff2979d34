/- What is left of a count; szByteS. -/
import Derived.Test.YtpcgbnfdhjepmaaRows
import Derived.Test.YtpcgbnfdhjepmaaMem
namespace Go.Proofs.Ytpcgbnfdhjepmaa
open Go.RowKit

/-- What is left of a count of at most left where n are taken: -1 if there are not so many. -/
def lft (left n : Nat) : Int := if n ≤ left then ((left - n : Nat) : Int) else -1

theorem lft_pos {left n : Nat} (h : n ≤ left) : lft left n = ((left - n : Nat) : Int) := by unfold lft; rw [if_pos h]
theorem lft_neg {left n : Nat} (h : ¬ n ≤ left) : lft left n = -1 := by unfold lft; rw [if_neg h]

end Go.Proofs.Ytpcgbnfdhjepmaa

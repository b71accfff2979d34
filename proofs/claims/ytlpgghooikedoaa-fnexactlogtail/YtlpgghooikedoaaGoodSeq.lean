/- l3GoodSeq of the model. -/
import Derived.Test.YtlpgghooikedoaaMem
import Derived.Test.YtlpgghooikedoaaRows
namespace Go.Proofs.Ytlpgghooikedoaa
open Go.RowKit

def goodSeq (q : Int) : Bool := decide (1 ≤ q) && decide (q ≤ 4294967295)

set_option maxHeartbeats 400000 in
theorem l3GoodSeq_calls (w : World) (q : Int) : Calls Try.prog 10 #[.int .i64 q] w fun e w' => e = .returned (.bool (goodSeq q)) ∧ w' = w := by
  by_cases h1 : 1 ≤ q
  · by_cases h2 : q ≤ 4294967295
    · have hg : goodSeq q = true := by unfold goodSeq; rw [decide_eq_true h1, decide_eq_true h2]; rfl
      rw [hg]
      go_enter Try.func10, Try.ntmps10
      go_wp2
      go_ret
      exact ⟨rfl, rfl⟩
    · have hg : goodSeq q = false := by unfold goodSeq; rw [decide_eq_false h2]; simp
      rw [hg]
      go_enter Try.func10, Try.ntmps10
      go_wp2
      go_ret
      exact ⟨rfl, rfl⟩
  · have hg : goodSeq q = false := by unfold goodSeq; rw [decide_eq_false h1]; rfl
    rw [hg]
    go_enter Try.func10, Try.ntmps10
    go_wp2
    go_ret
    exact ⟨rfl, rfl⟩

end Go.Proofs.Ytlpgghooikedoaa

/- l3GoodBlock of the model. -/
import Derived.Test.YtoicchlekcbbgaaRows
import Derived.Test.YtoicchlekcbbgaaMem
namespace Go.Proofs.Ytoicchlekcbbgaa
open Go.RowKit

set_option maxHeartbeats 400000 in
theorem l3GoodBlock_calls (w : World) (v : Int) : Calls Try.prog 10 #[.int .i64 v] w fun e w' => e = .returned (.bool (decide (0 ≤ v) && decide (v < 2048))) ∧ w' = w := by
  by_cases h1 : 0 ≤ v
  · by_cases h2 : v < 2048
    · rw [decide_eq_true h1, decide_eq_true h2]
      go_enter Try.func10, Try.ntmps10
      go_wp2
      go_ret
      exact ⟨rfl, rfl⟩
    · rw [decide_eq_true h1, decide_eq_false h2]
      go_enter Try.func10, Try.ntmps10
      go_wp2
      go_ret
      exact ⟨rfl, rfl⟩
  · rw [decide_eq_false h1]
    go_enter Try.func10, Try.ntmps10
    go_wp2
    go_ret
    exact ⟨rfl, rfl⟩

end Go.Proofs.Ytoicchlekcbbgaa

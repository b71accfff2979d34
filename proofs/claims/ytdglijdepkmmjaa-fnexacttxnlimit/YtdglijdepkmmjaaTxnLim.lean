/- TxnLimit of the model. -/
import Derived.Test.YtdglijdepkmmjaaMem
import Derived.Test.YtdglijdepkmmjaaRows
namespace Go.Proofs.Ytdglijdepkmmjaa
open Go.RowKit

def limD (s : Int) : Int := if s < 16 ∨ 512 < s then 0 else s / 4

set_option maxRecDepth 20000 in
set_option maxHeartbeats 400000 in
theorem specTxnLimit_calls (w : World) (s : Int) : Calls Try.prog 4 #[.int .i64 s] w fun e w' => e = .returned (.int .i64 (limD s)) ∧ w' = w := by
  by_cases h1 : s < 16
  · have Hn : Hid (limD s = 0) := by show _ = _; unfold limD; rw [if_pos (Or.inl h1)]
    go_enter Try.func4, Try.ntmps4
    go_wp2
    go_ret
    exact ⟨by rw [Hn.out]; rfl, rfl⟩
  · by_cases h2 : 512 < s
    · have Hn : Hid (limD s = 0) := by show _ = _; unfold limD; rw [if_pos (Or.inr h2)]
      go_enter Try.func4, Try.ntmps4
      go_wp2
      go_ret
      exact ⟨by rw [Hn.out]; rfl, rfl⟩
    · have Hn : Hid (limD s = s / 4) := by show _ = _; unfold limD; rw [if_neg (by omega)]
      have h0 : 0 ≤ s := by omega
      go_enter Try.func4, Try.ntmps4
      go_wp2
      go_ret
      exact ⟨by rw [Hn.out]; rfl, rfl⟩

end Go.Proofs.Ytdglijdepkmmjaa

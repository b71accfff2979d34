/- szInt64S. -/
import Derived.Test.YtmfcaiadcmgjbaaSzB
namespace Go.Proofs.Ytmfcaiadcmgjbaa
open Go.RowKit

set_option maxRecDepth 20000 in
set_option maxHeartbeats 400000 in
theorem szInt64S_calls (w : World) (ao : Option Addr) (n cap left : Nat) (hl : n ≤ 9223372036854775807) (hb : left ≤ 1048576) :
    Calls Try.prog 29 #[.slice ao n cap, .int .i64 left] w fun e w' => e = .returned (.int .i64 (lft left n)) ∧ w' = w := by
  by_cases h : n ≤ left
  · rw [lft_pos h]
    go_enter Try.func29, Try.ntmps29
    go_wp2
    go_ret
    exact ⟨ret_int (by omega), rfl⟩
  · rw [lft_neg h]
    have h' : (left : Int) - n < 0 := by omega
    go_enter Try.func29, Try.ntmps29
    go_wp2
    go_ret
    exact ⟨rfl, rfl⟩

end Go.Proofs.Ytmfcaiadcmgjbaa

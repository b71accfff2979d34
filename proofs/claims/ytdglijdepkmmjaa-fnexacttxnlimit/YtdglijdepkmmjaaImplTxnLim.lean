/- TxnLimit of the program. -/
import Derived.Test.YtdglijdepkmmjaaIsWithin
import Derived.Test.YtdglijdepkmmjaaTxnLim
namespace Go.Proofs.Ytdglijdepkmmjaa
open Go.RowKit

set_option maxRecDepth 20000 in
set_option maxHeartbeats 400000 in
theorem implTxnLimit_same (w : World) (s : Int) : Calls Try.prog 5 #[.int .i64 s] w fun e w' => e = .returned (.int .i64 (limD s)) ∧ w' = w := by
  go_enter Try.func5, Try.ntmps5
  go_wp2_with fail
  go_at_call 6
  refine (isWithin_calls _ s 16 512).mono ?_
  rintro e w1 ⟨rfl, rfl⟩
  by_cases c1 : 16 ≤ s ∧ s ≤ 512
  case neg =>
    have Hn : Hid (limD s = 0) := by show _ = _; unfold limD; rw [if_pos (by omega)]
    have hb : (decide (16 ≤ s) && decide (s ≤ 512)) = false := by rw [Bool.eq_false_iff]; simpa using c1
    rw [hb]
    go_wp2
    go_ret
    exact ⟨by rw [Hn.out]; rfl, rfl⟩
  case pos =>
    have Hn : Hid (limD s = s / 4) := by show _ = _; unfold limD; rw [if_neg (by omega)]
    have hb : (decide (16 ≤ s) && decide (s ≤ 512)) = true := by simpa using c1
    have h0 : 0 ≤ s := by omega
    have h1 : 16 ≤ s := c1.1
    have h2 : s ≤ 512 := c1.2
    rw [hb]
    go_wp2
    go_ret
    exact ⟨by rw [Hn.out]; rfl, rfl⟩

theorem implTxnLimit_calls (w : World) (s : Int) : Calls Try.prog 5 #[.int .i64 s] w fun e w' => e = .returned (.int .i64 (limD s)) ∧ Chg 0 0 w w' :=
  (implTxnLimit_same w s).mono fun _ _ ⟨he, hw⟩ => ⟨he, by rw [hw]; exact Chg.refl _ _ _⟩

end Go.Proofs.Ytdglijdepkmmjaa

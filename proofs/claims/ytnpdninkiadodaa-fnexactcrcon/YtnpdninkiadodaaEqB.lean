/- The law's helper that compares bytes: eqByteS. -/
import Derived.Test.YtnpdninkiadodaaRows
import Derived.Test.YtnpdninkiadodaaMem
import Derived.Deep.RegionWith
namespace Go.Proofs.Ytnpdninkiadodaa
open Go.RowKit

set_option maxHeartbeats 400000 in
theorem eqByteS_some (w : World) (xs : List Int) (b off b' off' cap cap' : Nat) (hl : xs.length ≤ 9223372036854775807)
    (h1 : ∀ i, i < xs.length → w.cell? ⟨b, off + i, none⟩ = some (.int .u8 (xs.getD i 0)))
    (h2 : ∀ i, i < xs.length → w.cell? ⟨b', off' + i, none⟩ = some (.int .u8 (xs.getD i 0))) :
    Calls Try.prog 7 #[.slice (some ⟨b, off, none⟩) xs.length cap, .slice (some ⟨b', off', none⟩) xs.length cap'] w fun e w' => e = .returned (.bool true) ∧ Same w w' := by
  have hne : ((xs.length : Int) != (xs.length : Int)) = false := by simp
  go_enter Try.func7, Try.ntmps7
  go_wp2
  go_loopw [5] (fun i wr => Same w wr ∧ ∃ k : Nat, k ≤ xs.length ∧ i = .int .i64 k) (fun i _ => xs.length - (intOf i).toNat)
  case atStart => exact ⟨Same.refl _, 0, Nat.zero_le _, rfl⟩
  case round =>
    obtain ⟨hal, k, hk, rfl⟩ := hrel
    have e1 : ∀ a, wr.cell? a = w.cell? a := fun a => hal.cell a
    by_cases hlt : k < xs.length
    · have c1 : wr.cell? ⟨b, off + k, none⟩ = some (.int .u8 (xs.getD k 0)) := (e1 _).trans (h1 k hlt)
      have c2 : wr.cell? ⟨b', off' + k, none⟩ = some (.int .u8 (xs.getD k 0)) := (e1 _).trans (h2 k hlt)
      clear e1
      have hi : (k : Int) < (xs.length : Int) := by omega
      go_wp2
      go_quiet (fail)
      go_wp2
      go_roundw
      case rel => exact ⟨hal.drewN _, k + 1, by omega, by go_num⟩
      case measure => simp [intOf]; omega
    · clear e1
      go_wp2
      go_ret
      exact ⟨rfl, hal⟩

set_option maxHeartbeats 400000 in
theorem eqByteS_none (w : World) (ao bo : Option Addr) (cap cap' : Nat) :
    Calls Try.prog 7 #[.slice ao 0 cap, .slice bo 0 cap'] w fun e w' => e = .returned (.bool true) ∧ Same w w' := by
  go_enter Try.func7, Try.ntmps7
  go_wp2
  refine wp_loop_rounds 1 ?_; rw [rounds_succ]
  go_wp2
  go_ret
  exact ⟨rfl, Same.refl _⟩

theorem eqByteS_calls (w : World) {lo hi lo' hi' : Nat} {a b : Value} {xs : List Int} (h1 : View w lo hi .u8 a xs) (h2 : View w lo' hi' .u8 b xs) :
    Calls Try.prog 7 #[a, b] w fun e w' => e = .returned (.bool true) ∧ Same w w' := by
  obtain ⟨ao, cap, rfl, hl, _, h1⟩ := h1
  obtain ⟨bo, cap', rfl, _, _, h2⟩ := h2
  rcases h1 with rfl | ⟨x, off, rfl, _, _, h1⟩
  · exact eqByteS_none w ao bo cap cap'
  · rcases h2 with rfl | ⟨y, off', rfl, _, _, h2⟩
    · exact eqByteS_none w _ bo cap cap'
    · exact eqByteS_some w xs x off y off' cap cap' hl h1 h2

end Go.Proofs.Ytnpdninkiadodaa

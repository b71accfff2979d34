/- CrcOn of the model. -/
import Derived.Test.YtnpdninkiadodaaSpecCrc
namespace Go.Proofs.Ytnpdninkiadodaa
open Go.RowKit

set_option maxHeartbeats 400000 in
theorem specCrcOn_calls (w : World) (c : Int) {lo hi : Nat} {a : Value} {xs : List Int} (hB : Byt xs) (h1 : View w lo hi .u8 a xs) :
    Calls Try.prog 4 #[.int .i64 c, a] w fun e w' => e = .returned (.int .i64 (crcOnV c xs)) ∧ w' = w := by
  by_cases h : c < 0 ∨ c > 4294967295
  · have hv : crcOnV c xs = -1 := by unfold crcOnV; rw [if_pos h]
    rw [hv]
    by_cases h0 : c < 0
    · go_enter Try.func4, Try.ntmps4
      go_wp2
      go_ret
      exact ⟨rfl, rfl⟩
    · have h2 : c > 4294967295 := by omega
      go_enter Try.func4, Try.ntmps4
      go_wp2
      go_ret
      exact ⟨rfl, rfl⟩
  · obtain ⟨n, rfl⟩ : ∃ n : Nat, c = (n : Int) := ⟨c.toNat, by omega⟩
    have hn : n ≤ 4294967295 := by omega
    have hv : crcOnV n xs = 4294967295 - (reg (4294967295 - n) (nb xs) : Nat) := by unfold crcOnV; rw [if_neg h]; rfl
    rw [hv]
    clear hv h
    have h0 : ¬ (n : Int) < 0 := by omega
    have h2 : ¬ (n : Int) > 4294967295 := by omega
    have hlt := reg_lt (nb xs) (4294967295 - n) (by omega)
    have E2 : Hid ((4294967295 : Int) - n = ((4294967295 - n : Nat) : Int)) := by show _ = _; omega
    go_enter Try.func4, Try.ntmps4
    go_wp2_with fail
    rw [E2.out]
    refine (l2Reg_calls _ (4294967295 - n) (by omega) hB h1).mono ?_
    rintro e w1 ⟨rfl, rfl⟩
    generalize hr : reg (4294967295 - n) (nb xs) = r at *
    have HR : Hid (reg (4294967295 - n) (nb xs) = r) := hr
    clear E2 hr
    go_wp2
    go_ret
    exact ⟨by rw [HR.out]; rfl, rfl⟩

end Go.Proofs.Ytnpdninkiadodaa

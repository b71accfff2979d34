/- The n-th position from p on: l4Place of the model, positionFrom of the program; isWithin. -/
import Derived.Test.YtamhjenhefbihadMem
import Derived.Test.YtamhjenhefbihadRows
namespace Go.Proofs.Ytamhjenhefbihad
open Go.RowKit

def placeI (size p n : Int) : Int := (p - 1 + n) % size + 1

set_option maxHeartbeats 400000 in
theorem l4Place_calls (w : World) (size p n : Int) (h1 : 16 ≤ size) (h2 : size ≤ 512) (h3 : 1 ≤ p) (h4 : p ≤ 512) (h5 : 0 ≤ n) (h6 : n ≤ 512) :
    Calls Try.prog 21 #[.int .i64 size, .int .i64 p, .int .i64 n] w fun e w' => e = .returned (.int .i64 (placeI size p n)) ∧ w' = w := by
  have hm := Int.emod_nonneg (p - 1 + n) (b := size) (by omega)
  have hm2 := Int.emod_lt_of_pos (p - 1 + n) (b := size) (by omega)
  go_enter Try.func21, Try.ntmps21
  go_wp2
  go_ret
  exact ⟨rfl, rfl⟩

set_option maxHeartbeats 400000 in
theorem positionFrom_calls (w : World) (size p n : Int) (h1 : 16 ≤ size) (h2 : size ≤ 512) (h3 : 1 ≤ p) (h4 : p ≤ 512) (h5 : 0 ≤ n) (h6 : n ≤ 512) :
    Calls Try.prog 23 #[.int .i64 p, .int .i64 n, .int .i64 size] w fun e w' => e = .returned (.int .i64 (placeI size p n)) ∧ w' = w := by
  have hm := Int.emod_nonneg (p - 1 + n) (b := size) (by omega)
  have hm2 := Int.emod_lt_of_pos (p - 1 + n) (b := size) (by omega)
  go_enter Try.func23, Try.ntmps23
  go_wp2
  go_ret
  exact ⟨rfl, rfl⟩

set_option maxHeartbeats 400000 in
theorem isWithin_calls (w : World) (v l m : Int) : Calls Try.prog 22 #[.int .i64 v, .int .i64 l, .int .i64 m] w fun e w' => e = .returned (.bool (decide (l ≤ v) && decide (v ≤ m))) ∧ w' = w := by
  by_cases h1 : l ≤ v
  · by_cases h2 : v ≤ m
    · rw [decide_eq_true h1, decide_eq_true h2]
      go_enter Try.func22, Try.ntmps22
      go_wp2
      go_ret
      exact ⟨rfl, rfl⟩
    · rw [decide_eq_true h1, decide_eq_false h2]
      go_enter Try.func22, Try.ntmps22
      go_wp2
      go_ret
      exact ⟨rfl, rfl⟩
  · rw [decide_eq_false h1]
    go_enter Try.func22, Try.ntmps22
    go_wp2
    go_ret
    exact ⟨rfl, rfl⟩

end Go.Proofs.Ytamhjenhefbihad

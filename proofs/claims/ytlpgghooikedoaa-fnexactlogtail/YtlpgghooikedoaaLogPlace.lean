/- The n-th position from p on: l4Place of the model, positionFrom of the program. -/
import Derived.Test.YtlpgghooikedoaaIsWithin
import Derived.Test.YtlpgghooikedoaaRows
namespace Go.Proofs.Ytlpgghooikedoaa
open Go.RowKit

def placeI (size p n : Int) : Int := (p - 1 + n) % size + 1

set_option maxHeartbeats 400000 in
theorem l4Place_calls (w : World) (size p n : Int) (h1 : 16 ≤ size) (h2 : size ≤ 512) (h3 : 1 ≤ p) (h4 : p ≤ 512) (h5 : 0 ≤ n) (h6 : n ≤ 512) :
    Calls Try.prog 11 #[.int .i64 size, .int .i64 p, .int .i64 n] w fun e w' => e = .returned (.int .i64 (placeI size p n)) ∧ w' = w := by
  have hm := Int.emod_nonneg (p - 1 + n) (b := size) (by omega)
  have hm2 := Int.emod_lt_of_pos (p - 1 + n) (b := size) (by omega)
  go_enter Try.func11, Try.ntmps11
  go_wp2
  go_ret
  exact ⟨rfl, rfl⟩

set_option maxHeartbeats 400000 in
theorem positionFrom_calls (w : World) (size p n : Int) (h1 : 16 ≤ size) (h2 : size ≤ 512) (h3 : 1 ≤ p) (h4 : p ≤ 512) (h5 : 0 ≤ n) (h6 : n ≤ 512) :
    Calls Try.prog 13 #[.int .i64 p, .int .i64 n, .int .i64 size] w fun e w' => e = .returned (.int .i64 (placeI size p n)) ∧ w' = w := by
  have hm := Int.emod_nonneg (p - 1 + n) (b := size) (by omega)
  have hm2 := Int.emod_lt_of_pos (p - 1 + n) (b := size) (by omega)
  go_enter Try.func13, Try.ntmps13
  go_wp2
  go_ret
  exact ⟨rfl, rfl⟩

end Go.Proofs.Ytlpgghooikedoaa

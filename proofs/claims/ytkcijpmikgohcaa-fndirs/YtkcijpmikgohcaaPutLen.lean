/- How long the bytes of a number are; where a sum lies. -/
import Derived.Test.YtkcijpmikgohcaaPutN
import Derived.Test.YtkcijpmikgohcaaPutByt
import Derived.Test.YtkcijpmikgohcaaSteps
namespace Go.Proofs.Ytkcijpmikgohcaa
open Go.RowKit

theorem pn2 {v : Int} (h0 : 0 ≤ v) (h1 : v < 65536) : (putN v 2).length = 2 := by
  unfold putN
  rw [if_neg (by omega), if_neg (by rw [show (256 : Int) ^ (2 : Int).toNat = 65536 from rfl]; omega), digs_length]
  rfl
theorem pn4 {v : Int} (h0 : 0 ≤ v) (h1 : v ≤ 4294967295) : (putN v 4).length = 4 := by
  unfold putN
  rw [if_neg (by omega), if_neg (by rw [show (256 : Int) ^ (4 : Int).toNat = 4294967296 from rfl]; omega), digs_length]
  rfl
theorem crcV_range (xs : List Int) : 0 ≤ crcV xs ∧ crcV xs ≤ 4294967295 := by
  have hlt := reg_lt (nb xs) 4294967295 (by omega)
  unfold crcV
  omega

end Go.Proofs.Ytkcijpmikgohcaa

/- l2Same of the model: bytes held against each other as strings. -/
import Derived.Test.YtcgemenhkjfejaaDoorViewStr
import Derived.Test.YtcgemenhkjfejaaDoorStrInj
namespace Go.Proofs.YtcgemenhkjfejaaDoor
open Go.RowKit

set_option maxRecDepth 20000 in
set_option maxHeartbeats 400000 in
theorem l2Same_calls (w : World) {lo hi lo' hi' : Nat} {a b : Value} {xs ys : List Int} (hx : Byt xs) (hy : Byt ys) (h1 : View w lo hi .u8 a xs) (h2 : View w lo' hi' .u8 b ys) :
    Calls Tryd.prog 12 #[a, b] w fun e w' => e = .returned (.bool (decide (xs = ys))) ∧ w' = w := by
  have c1 := h1.str
  have c2 := h2.str
  have hb := str_beq hx hy
  obtain ⟨ao, cap, rfl, _⟩ := h1
  obtain ⟨bo, cap', rfl, _⟩ := h2
  generalize strOfNums xs = s at *
  generalize strOfNums ys = t at *
  generalize decide (xs = ys) = r at *
  go_enter Tryd.func12, Tryd.ntmps12
  go_wp2
  go_ret
  exact ⟨rfl, rfl⟩

end Go.Proofs.YtcgemenhkjfejaaDoor

/- lwSameBytes of the laws. -/
import Derived.Test.YtplfehjaakkldaaViewStr
namespace Go.Proofs.Ytplfehjaakkldaa
open Go.RowKit

set_option maxRecDepth 20000 in
set_option maxHeartbeats 400000 in
theorem lwSameBytes_calls (w : World) {lo hi lo' hi' : Nat} {a b : Value} {xs : List Int} (h1 : View w lo hi .u8 a xs) (h2 : View w lo' hi' .u8 b xs) :
    Calls Try.prog 36 #[a, b] w fun e w' => e = .returned (.bool true) ∧ w' = w := by
  have c1 := h1.str
  have c2 := h2.str
  obtain ⟨ao, cap, rfl, _⟩ := h1
  obtain ⟨bo, cap', rfl, _⟩ := h2
  generalize strOfNums xs = s at *
  go_enter Try.func36, Try.ntmps36
  go_wp2
  go_ret
  exact ⟨rfl, rfl⟩

end Go.Proofs.Ytplfehjaakkldaa

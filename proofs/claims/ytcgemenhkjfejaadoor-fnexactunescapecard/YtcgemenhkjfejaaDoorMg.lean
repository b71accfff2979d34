/- The journal's magic. -/
import Derived.Test.YtcgemenhkjfejaaDoorByt
namespace Go.Proofs.YtcgemenhkjfejaaDoor
open Go.RowKit

/-- The magic. -/
def mg : List Int := [106, 108, 111, 103]

theorem byt_mg : Byt mg := by intro x hx; simp [mg] at hx; omega

end Go.Proofs.YtcgemenhkjfejaaDoor

/- BitRuns of the model. -/
import Derived.Test.YtgmpggloonkfnaaBitCntSpec
import Derived.Test.YtgmpggloonkfnaaFlat
import Derived.Deep.DeepCutAuto
namespace Go.Proofs.Ytgmpggloonkfnaa
open Go.RowKit

/-- One more place that is off. -/
def addRun (fs : List Int) (i : Int) : List Int :=
  if 0 < fs.length ∧ fs.getD (fs.length - 2) 0 + fs.getD (fs.length - 1) 0 = i then fs.set (fs.length - 1) (fs.getD (fs.length - 1) 0 + 1) else fs ++ [i, 1]
def runsFrom (xs : List Int) : List Int → Int → Nat → List Int
  | fs, _, 0 => fs
  | fs, i, n + 1 => runsFrom xs (if bitG xs i = true then fs else addRun fs i) (i + 1) n
def runsD (xs : List Int) (f t : Int) : List Int := runsFrom xs [] (wlo f) (whi xs t - wlo f).toNat

theorem Try.infoR : (Try.prog.info? 29).map (fun i => (i.zero, i.size, i.bytes)) = some (some (.agg #[.int .i64 0, .int .i64 0]), 2, 16) := by kernel_rfl

end Go.Proofs.Ytgmpggloonkfnaa

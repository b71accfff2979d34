/- The program's own knob, its lay-out. -/
import Derived.Test.YtikldohglkjlaaaDoorRows
import Derived.ProofKit
import Derived.OpenShut
namespace Go.Proofs.YtikldohglkjlaaaDoor
open Go.ChangeShapes Go.WideShapes Go.ChangeAt Go.RowKit
theorem own : ownKnob Tryd.prog.godebug = none := by kernel_rfl
theorem laidOut : laidOutB Tryd.prog = true := by kernel_rfl
end Go.Proofs.YtikldohglkjlaaaDoor

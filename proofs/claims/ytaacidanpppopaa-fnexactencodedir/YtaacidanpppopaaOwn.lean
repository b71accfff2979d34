/- The program's own knob, its lay-out. -/
import Derived.Test.YtaacidanpppopaaRows
import Derived.ProofKit
import Derived.OpenShut
namespace Go.Proofs.Ytaacidanpppopaa
open Go.ChangeShapes Go.WideShapes Go.ChangeAt Go.RowKit
theorem own : ownKnob Try.prog.godebug = none := by kernel_rfl
theorem laidOut : laidOutB Try.prog = true := by kernel_rfl
end Go.Proofs.Ytaacidanpppopaa

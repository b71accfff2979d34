/- What a listed error of the library gives. -/
import Derived.Test.YtoagahpoblcioaaDoorRows
import Derived.ChangeSame
import Derived.ChangeVars
import Derived.OpenShut
import Derived.OpenVars
import Derived.JoinedOf
import Derived.RowKitTokens
import Derived.LaidLaws
import Derived.LaidHandle
import Derived.Stop.LaidErr
import Derived.Stop.Joined
namespace Go.Proofs.YtoagahpoblcioaaDoor
open Go.ChangeShapes Go.WideShapes Go.RowKit

theorem ls_star : "*" ++ "errors.errorString" = "*errors.errorString" := by decide
end Go.Proofs.YtoagahpoblcioaaDoor

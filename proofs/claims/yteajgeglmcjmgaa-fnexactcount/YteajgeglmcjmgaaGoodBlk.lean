/- l3GoodBlock of the model. -/
import Derived.Test.YteajgeglmcjmgaaRows
import Derived.Test.YteajgeglmcjmgaaMem
namespace Go.Proofs.Yteajgeglmcjmgaa
open Go.RowKit

end Go.Proofs.Yteajgeglmcjmgaa

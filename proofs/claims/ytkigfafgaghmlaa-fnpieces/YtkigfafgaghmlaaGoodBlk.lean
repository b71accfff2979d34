/- l3GoodBlock of the model. -/
import Derived.Test.YtkigfafgaghmlaaRows
import Derived.Test.YtkigfafgaghmlaaMem
namespace Go.Proofs.Ytkigfafgaghmlaa
open Go.RowKit

end Go.Proofs.Ytkigfafgaghmlaa

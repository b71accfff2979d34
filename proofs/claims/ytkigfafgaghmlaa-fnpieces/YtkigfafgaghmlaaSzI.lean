/- szInt64S. -/
import Derived.Test.YtkigfafgaghmlaaSzB
namespace Go.Proofs.Ytkigfafgaghmlaa
open Go.RowKit

end Go.Proofs.Ytkigfafgaghmlaa

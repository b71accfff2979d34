/- l3GoodSeq, l3Pad of the model; append of bytes that are seen to bytes that are owned. -/
import Derived.Test.YtefkcfpaifedgaaDoorSpecBeg
import Derived.Test.YtefkcfpaifedgaaDoorJoin2
import Derived.Test.YtefkcfpaifedgaaDoorGoodSeq
namespace Go.Proofs.YtefkcfpaifedgaaDoor
open Go.RowKit

/-- A block that begins so, with zeros behind. -/
def padL (xs : List Int) : List Int := xs ++ List.replicate (64 - xs.length) 0

end Go.Proofs.YtefkcfpaifedgaaDoor

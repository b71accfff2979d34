/- l3GoodSeq, l3Pad of the model; append of bytes that are seen to bytes that are owned. -/
import Derived.Test.YtaciallijnhieaaDoorSpecBeg
import Derived.Test.YtaciallijnhieaaDoorJoin2
import Derived.Test.YtaciallijnhieaaDoorGoodSeq
namespace Go.Proofs.YtaciallijnhieaaDoor
open Go.RowKit

/-- A block that begins so, with zeros behind. -/
def padL (xs : List Int) : List Int := xs ++ List.replicate (64 - xs.length) 0

end Go.Proofs.YtaciallijnhieaaDoor

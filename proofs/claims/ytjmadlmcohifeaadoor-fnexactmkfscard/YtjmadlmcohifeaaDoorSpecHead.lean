/- l3GoodSeq, l3Pad of the model; append of bytes that are seen to bytes that are owned. -/
import Derived.Test.YtjmadlmcohifeaaDoorSpecBeg
import Derived.Test.YtjmadlmcohifeaaDoorJoin2
import Derived.Test.YtjmadlmcohifeaaDoorGoodSeq
namespace Go.Proofs.YtjmadlmcohifeaaDoor
open Go.RowKit

/-- A block that begins so, with zeros behind. -/
def padL (xs : List Int) : List Int := xs ++ List.replicate (64 - xs.length) 0

end Go.Proofs.YtjmadlmcohifeaaDoor

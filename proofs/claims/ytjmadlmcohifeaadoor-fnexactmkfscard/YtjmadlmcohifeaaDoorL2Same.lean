/- l2Same of the model: bytes held against each other as strings. -/
import Derived.Test.YtjmadlmcohifeaaDoorViewStr
import Derived.Test.YtjmadlmcohifeaaDoorStrInj
namespace Go.Proofs.YtjmadlmcohifeaaDoor
open Go.RowKit

end Go.Proofs.YtjmadlmcohifeaaDoor

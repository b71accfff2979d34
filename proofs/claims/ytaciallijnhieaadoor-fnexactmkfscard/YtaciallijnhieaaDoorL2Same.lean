/- l2Same of the model: bytes held against each other as strings. -/
import Derived.Test.YtaciallijnhieaaDoorViewStr
import Derived.Test.YtaciallijnhieaaDoorStrInj
namespace Go.Proofs.YtaciallijnhieaaDoor
open Go.RowKit

end Go.Proofs.YtaciallijnhieaaDoor

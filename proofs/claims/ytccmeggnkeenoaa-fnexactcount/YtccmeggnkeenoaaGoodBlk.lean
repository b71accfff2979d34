/- l3GoodBlock of the model. -/
import Derived.Test.YtccmeggnkeenoaaRows
import Derived.Test.YtccmeggnkeenoaaMem
namespace Go.Proofs.Ytccmeggnkeenoaa
open Go.RowKit

end Go.Proofs.Ytccmeggnkeenoaa

/- l3GoodBlock of the model. -/
import Derived.Test.YtdddphgjiokjpaaRows
import Derived.Test.YtdddphgjiokjpaaMem
namespace Go.Proofs.Ytdddphgjiokjpaa
open Go.RowKit

end Go.Proofs.Ytdddphgjiokjpaa

/- l3GoodBlock of the model. -/
import Derived.Test.YtbdkdfkhcmckhaaRows
import Derived.Test.YtbdkdfkhcmckhaaMem
namespace Go.Proofs.Ytbdkdfkhcmckhaa
open Go.RowKit

end Go.Proofs.Ytbdkdfkhcmckhaa

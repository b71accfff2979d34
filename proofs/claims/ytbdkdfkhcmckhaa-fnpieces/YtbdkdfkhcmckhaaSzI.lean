/- szInt64S. -/
import Derived.Test.YtbdkdfkhcmckhaaSzB
namespace Go.Proofs.Ytbdkdfkhcmckhaa
open Go.RowKit

end Go.Proofs.Ytbdkdfkhcmckhaa

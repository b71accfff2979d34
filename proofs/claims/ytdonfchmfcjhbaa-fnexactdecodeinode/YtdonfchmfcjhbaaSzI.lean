/- szInt64S. -/
import Derived.Test.YtdonfchmfcjhbaaSzB
namespace Go.Proofs.Ytdonfchmfcjhbaa
open Go.RowKit

end Go.Proofs.Ytdonfchmfcjhbaa

/- Entries that came in. -/
import Derived.Test.YtpahlcejdhncmaaOpenP
import Derived.Test.YtpahlcejdhncmaaEntBase
namespace Go.Proofs.Ytpahlcejdhncmaa
open Go.ChangeShapes Go.WideShapes Go.ChangeAt Go.RowKit Go.Joins Go.Deep

end Go.Proofs.Ytpahlcejdhncmaa

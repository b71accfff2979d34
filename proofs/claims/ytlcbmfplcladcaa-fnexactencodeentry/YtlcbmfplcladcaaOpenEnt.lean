/- Entries that came in. -/
import Derived.Test.YtlcbmfplcladcaaOpenP
import Derived.Test.YtlcbmfplcladcaaEntBase
namespace Go.Proofs.Ytlcbmfplcladcaa
open Go.ChangeShapes Go.WideShapes Go.ChangeAt Go.RowKit Go.Joins Go.Deep

end Go.Proofs.Ytlcbmfplcladcaa

/- errors.As at the program's own kind of error, and isFault; after the guide's worked example (toyas), over worlds that differ in new blocks alone. -/
import Derived.Test.YtjmadlmcohifeaaDoorRows
import Derived.Test.YtjmadlmcohifeaaDoorMem
import Derived.LaidEql
import Derived.Stop.Asserts
import Derived.RowKitTokens
namespace Go.Proofs.YtjmadlmcohifeaaDoor
open Go.RowKit Go.Extern.Stop Go.Stop Go.Extern

end Go.Proofs.YtjmadlmcohifeaaDoor

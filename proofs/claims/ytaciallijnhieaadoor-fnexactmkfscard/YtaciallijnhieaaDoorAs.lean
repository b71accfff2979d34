/- errors.As at the program's own kind of error, and isFault; after the guide's worked example (toyas), over worlds that differ in new blocks alone. -/
import Derived.Test.YtaciallijnhieaaDoorRows
import Derived.Test.YtaciallijnhieaaDoorMem
import Derived.LaidEql
import Derived.Stop.Asserts
import Derived.RowKitTokens
namespace Go.Proofs.YtaciallijnhieaaDoor
open Go.RowKit Go.Extern.Stop Go.Stop Go.Extern

end Go.Proofs.YtaciallijnhieaaDoor

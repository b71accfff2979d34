/- EncodeSuper of the program. -/
import Derived.Test.YthfhleddpiemoaaDoorImplSys
import Derived.Test.YthfhleddpiemoaaDoorImplGeo
import Derived.Test.YthfhleddpiemoaaDoorBytesOf
namespace Go.Proofs.YthfhleddpiemoaaDoor
open Go.RowKit

end Go.Proofs.YthfhleddpiemoaaDoor

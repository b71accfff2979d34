/- EncodeSuper of the program. -/
import Derived.Test.YtemgjppjbinmjaaDoorImplSys
import Derived.Test.YtemgjppjbinmjaaDoorImplGeo
import Derived.Test.YtemgjppjbinmjaaDoorBytesOf
namespace Go.Proofs.YtemgjppjbinmjaaDoor
open Go.RowKit

end Go.Proofs.YtemgjppjbinmjaaDoor

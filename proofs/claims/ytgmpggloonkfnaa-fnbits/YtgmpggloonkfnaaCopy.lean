/- The model's l1Copy. -/
import Derived.Test.YtgmpggloonkfnaaBytesOf
import Derived.Laws.AppendOwnNone
namespace Go.Proofs.Ytgmpggloonkfnaa
open Go.RowKit

theorem infoU_zero : (Value.int .u8 0).cells.size = 1 := rfl

end Go.Proofs.Ytgmpggloonkfnaa

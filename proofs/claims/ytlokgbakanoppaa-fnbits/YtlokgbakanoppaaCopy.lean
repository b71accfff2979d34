/- The model's l1Copy. -/
import Derived.Test.YtlokgbakanoppaaBytesOf
import Derived.Laws.AppendOwnNone
namespace Go.Proofs.Ytlokgbakanoppaa
open Go.RowKit

theorem infoU_zero : (Value.int .u8 0).cells.size = 1 := rfl

end Go.Proofs.Ytlokgbakanoppaa

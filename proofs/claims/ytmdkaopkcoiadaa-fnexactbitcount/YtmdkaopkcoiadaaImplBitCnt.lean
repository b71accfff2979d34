/- BitFirst, BitCount of the program. -/
import Derived.Test.YtmdkaopkcoiadaaImplFirst
import Derived.Test.YtmdkaopkcoiadaaImplCount

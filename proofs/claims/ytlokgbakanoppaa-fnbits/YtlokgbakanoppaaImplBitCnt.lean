/- BitFirst, BitCount of the program. -/
import Derived.Test.YtlokgbakanoppaaImplFirst
import Derived.Test.YtlokgbakanoppaaImplCount

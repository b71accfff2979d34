/- BitFirst, BitCount of the program. -/
import Derived.Test.YtafpoclikmlocaaImplFirst
import Derived.Test.YtafpoclikmlocaaImplCount

/- BitFirst, BitCount of the program. -/
import Derived.Test.YtgmpggloonkfnaaImplFirst
import Derived.Test.YtgmpggloonkfnaaImplCount

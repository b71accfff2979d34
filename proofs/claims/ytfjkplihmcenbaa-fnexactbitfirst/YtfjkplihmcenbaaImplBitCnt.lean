/- BitFirst, BitCount of the program. -/
import Derived.Test.YtfjkplihmcenbaaImplFirst
import Derived.Test.YtfjkplihmcenbaaImplCount

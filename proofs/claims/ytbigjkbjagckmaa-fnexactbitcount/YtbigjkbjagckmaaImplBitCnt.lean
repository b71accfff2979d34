/- BitFirst, BitCount of the program. -/
import Derived.Test.YtbigjkbjagckmaaImplFirst
import Derived.Test.YtbigjkbjagckmaaImplCount

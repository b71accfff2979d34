/- Byte k of a text. (split off StrSpec) -/
import Derived.Test.YtlbiaennccionaaRows
import Derived.Test.YtlbiaennccionaaMem
namespace Go.Proofs.Ytlbiaennccionaa
open Go.RowKit

/-- Byte k of a text. -/
def chr (s : ByteArray) (k : Nat) : Nat := if h : k < s.size then s[k].toNat else 0
theorem chr_lt {s : ByteArray} {k : Nat} (h : k < s.size) : chr s k = s[k].toNat := by unfold chr; rw [dif_pos h]
theorem chr_256 (s : ByteArray) (k : Nat) : chr s k < 256 := by
  unfold chr
  split
  · exact UInt8.toNat_lt _
  · omega
end Go.Proofs.Ytlbiaennccionaa

/- markText of the laws. -/
import Derived.Test.YtlepbhekcpdddaaViewStr
import Derived.Deep.DeepCutAuto
namespace Go.Proofs.Ytlepbhekcpdddaa
open Go.RowKit

def mtGo : Nat → Nat → ByteArray → ByteArray
  | 0, _, s => s
  | n + 1, m, s => if m = 0 then s else mtGo n (m / 10) (strOfNums [48 + (m : Int) % 10] ++ s)
/-- The text that marks with k. -/
def mtext (k : Nat) : ByteArray := (⟨#[109]⟩ : ByteArray) ++ mtGo k k ⟨#[]⟩

theorem strOfNums_one (d : Int) : (strOfNums [d]).size = 1 := by simp [strOfNums, ByteArray.size]

end Go.Proofs.Ytlepbhekcpdddaa

/- The header of a block: faultOf, magic, headerOf of the program. -/
import Derived.Test.YtaciallijnhieaaDoorRowZ
import Derived.Test.YtaciallijnhieaaDoorAs
import Derived.Test.YtaciallijnhieaaDoorGetI
import Derived.Test.YtaciallijnhieaaDoorWeak
import Derived.Test.YtaciallijnhieaaDoorCells
import Derived.Deep.RegionHeld3
namespace Go.Proofs.YtaciallijnhieaaDoor
open Go.RowKit

/-- A header's seven cells. -/
def hd7 (xs : List Int) : Array Value := #[.int .u8 (xs.getD 0 0), .int .u8 (xs.getD 1 0), .int .u8 (xs.getD 2 0), .int .u8 (xs.getD 3 0), .int .i64 (xs.getD 4 0), .int .i64 (getN ((xs.drop 6).take 2)), .int .i64 (getN ((xs.drop 8).take 4))]

theorem arrayAt_four (w : World) (a : Addr) (cap : Nat) : (Instr.arrayAt 60 (.slice (some a) 4 cap)).run Tryd.prog w = .ok (.pointer (some a)) w := by
  first | kernel_rfl | rfl | simp [Instr.arrayAt, go_sem]

theorem row_range {w : World} {b : Nat} {cs : List Value} {t : TypeId} (h : w.heap[b]? = some (.cells cs.toArray t (0, 0))) (o n : Nat) : w.rangeAt b o ((cs.drop o).take n) := by
  intro j v hj
  rw [List.getElem?_take] at hj
  split at hj
  · rw [List.getElem?_drop] at hj
    simp [World.cell?, h, hj]
  · cases hj

end Go.Proofs.YtaciallijnhieaaDoor

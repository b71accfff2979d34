/- The header of a block: faultOf, magic, headerOf of the program. -/
import Derived.Test.YtfdbmhaapembjaaGreatDoorRowZ
import Derived.Test.YtfdbmhaapembjaaGreatDoorAs
import Derived.Test.YtfdbmhaapembjaaGreatDoorGetI
import Derived.Test.YtfdbmhaapembjaaGreatDoorWeak
import Derived.Test.YtfdbmhaapembjaaGreatDoorCells
import Derived.Deep.RegionHeld3
namespace Go.Proofs.YtfdbmhaapembjaaGreatDoor
open Go.RowKit

/-- What is wrong with a block. -/
def FaultAt (w : World) (b : Nat) (k : Int) (why : Value) : Prop := w.heap[b]? = some (.cells #[.int .i64 k, why] 138 (0, 0))

set_option maxRecDepth 20000 in
set_option maxHeartbeats 400000 in
theorem faultOf_calls (w : World) (k : Int) (t : TypeId) (v : Value) :
    Calls Tryz.prog 82 #[.int .i64 k, (.iface t v)] w fun e w' => e = .returned (.iface 86 (.pointer (some ⟨w.heap.size, 0, none⟩))) ∧ FaultAt w' w.heap.size k (.iface t v) ∧ Chg 0 0 w w' := by
  have HB : Hid (FaultAt (w.alloc (.cells #[.int .i64 k, (.iface t v)] 138)) w.heap.size k (.iface t v)) := heap_new w _
  have HC : Hid (Chg 0 0 w (w.alloc (.cells #[.int .i64 k, (.iface t v)] 138))) := Chg.alloc (Chg.refl 0 0 w) _
  go_enter Tryz.func82, Tryz.ntmps82
  go_wp2
  go_ret
  exact ⟨rfl, HB.out, HC.out⟩

/-- A header's seven cells. -/
def hd7 (xs : List Int) : Array Value := #[.int .u8 (xs.getD 0 0), .int .u8 (xs.getD 1 0), .int .u8 (xs.getD 2 0), .int .u8 (xs.getD 3 0), .int .i64 (xs.getD 4 0), .int .i64 (getN ((xs.drop 6).take 2)), .int .i64 (getN ((xs.drop 8).take 4))]

theorem arrayAt_four (w : World) (a : Addr) (cap : Nat) : (Instr.arrayAt 66 (.slice (some a) 4 cap)).run Tryz.prog w = .ok (.pointer (some a)) w := by
  first | kernel_rfl | rfl | simp [Instr.arrayAt, go_sem]

theorem row_range {w : World} {b : Nat} {cs : List Value} {t : TypeId} (h : w.heap[b]? = some (.cells cs.toArray t (0, 0))) (o n : Nat) : w.rangeAt b o ((cs.drop o).take n) := by
  intro j v hj
  rw [List.getElem?_take] at hj
  split at hj
  · rw [List.getElem?_drop] at hj
    simp [World.cell?, h, hj]
  · cases hj

end Go.Proofs.YtfdbmhaapembjaaGreatDoor

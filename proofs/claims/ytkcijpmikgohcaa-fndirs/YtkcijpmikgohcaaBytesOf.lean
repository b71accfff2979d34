/- bytesOf of the program: a block's bytes as a slice. -/
import Derived.Test.YtkcijpmikgohcaaRows
import Derived.Test.YtkcijpmikgohcaaCells
import Derived.Deep.RegionHeld3
namespace Go.Proofs.Ytkcijpmikgohcaa
open Go.RowKit

theorem Chg.setRow (w : World) (g : Nat) (cs : Array Value) : Chg g (g + 1) w (w.setRow g cs) :=
  ⟨rfl, rfl, rfl, by simp [World.setRow], fun k _ hk => setRow_other w g k cs (by omega)⟩

theorem Try.infoU : (Try.prog.info? 5).map (fun i => (i.zero, i.size, i.bytes)) = some (some (.int .u8 0), 1, 1) := by kernel_rfl

end Go.Proofs.Ytkcijpmikgohcaa

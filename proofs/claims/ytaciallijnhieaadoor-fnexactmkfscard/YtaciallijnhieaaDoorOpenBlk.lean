/- openBlock of the program. -/
import Derived.Test.YtaciallijnhieaaDoorRowZ
import Derived.Test.YtaciallijnhieaaDoorHead
import Derived.Test.YtaciallijnhieaaDoorHeld
import Derived.Test.YtaciallijnhieaaDoorCells2
import Derived.Test.YtaciallijnhieaaDoorMg
import Derived.Deep.RegionWith
import Derived.Deep.DeepCutAuto
namespace Go.Proofs.YtaciallijnhieaaDoor
open Go.RowKit

theorem results_bhe {P : Program} {fn : Func} {p1 p2 p3 : Tmp} {t1 t2 : TypeId} {w : World} {tmps : Array Value} {a1 a2 : Addr} {v1 v2 v3 : Value} (h : fn.results = #[.cell p1 t1, .cell p2 t2, .tmp p3]) (h1 : tmps.getD p1 undef = .pointer (some a1)) (h2 : tmps.getD p2 undef = .pointer (some a2)) (h3 : tmps.getD p3 undef = v3)
    (hl1 : (loadVar t1 a1).run P w = .ok v1 w) (hl2 : (loadVar t2 a2).run P w = .ok v2 w) : (results fn tmps).run P w = .ok (.tuple #[v1, v2, v3]) w := by
  have h1' : tmps[p1]?.getD undef = .pointer (some a1) := by simpa using h1
  have h2' : tmps[p2]?.getD undef = .pointer (some a2) := by simpa using h2
  have h3' : tmps[p3]?.getD undef = v3 := by simpa using h3
  simp only [results, h]
  simp [asAddr, h1', h2', h3', hl1, hl2]

/-- The cells of a block. -/
def Blk (L : List Value) : Prop := L.length = 64 ∧ ∀ v ∈ L, v.oneCell' = true

abbrev z7 : List Value := [.int .u8 0, .int .u8 0, .int .u8 0, .int .u8 0, .int .i64 0, .int .i64 0, .int .i64 0]

end Go.Proofs.YtaciallijnhieaaDoor

/- unescapeBlock of the program. -/
import Derived.Test.YtcjemnhnpkpanaaDoorOpenBlk2
import Derived.Test.YtcjemnhnpkpanaaDoorBytesOf
namespace Go.Proofs.YtcjemnhnpkpanaaDoor
open Go.RowKit

/-- What stood ahead of the escaping. -/
def unescL (xs : List Int) (esc : Bool) : List Int := if esc = true then mg ++ xs.drop 4 else xs
def unescB (xs : List Int) (esc : Bool) : Bool := if esc = true then decide (xs.take 4 = [0, 0, 0, 0]) else !decide (xs.take 4 = mg)

theorem results_be {P : Program} {fn : Func} {p1 p3 : Tmp} {t1 : TypeId} {w : World} {tmps : Array Value} {a1 : Addr} {v1 v3 : Value} (h : fn.results = #[.cell p1 t1, .tmp p3]) (h1 : tmps.getD p1 undef = .pointer (some a1)) (h3 : tmps.getD p3 undef = v3)
    (hl1 : (loadVar t1 a1).run P w = .ok v1 w) : (results fn tmps).run P w = .ok (.tuple #[v1, v3]) w := by
  have h1' : tmps[p1]?.getD undef = .pointer (some a1) := by simpa using h1
  have h3' : tmps[p3]?.getD undef = v3 := by simpa using h3
  simp only [results, h]
  simp [asAddr, h1', h3', hl1]

end Go.Proofs.YtcjemnhnpkpanaaDoor

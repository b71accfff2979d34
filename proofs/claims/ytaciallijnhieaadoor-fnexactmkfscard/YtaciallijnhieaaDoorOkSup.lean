/- A superblock that is valid; how long its bytes are. -/
import Derived.Test.YtaciallijnhieaaDoorImplEncS
import Derived.Test.YtaciallijnhieaaDoorPutLen
namespace Go.Proofs.YtaciallijnhieaaDoor
open Go.RowKit

theorem supL_length {h0 h1 h2 h3 kd it sq st : Int} (hi2 : (putN it 2).length = 2) (hq4 : (putN sq 4).length = 4) (ht2 : (putN st 2).length = 2) (hc4 : (putN (crcV (supA h0 h1 h2 h3 kd it sq st)) 4).length = 4) : (supL h0 h1 h2 h3 kd it sq st).length = 64 := by
  unfold supL; rw [List.length_append, supA_length hi2 hq4 ht2, hc4]

/-- The numbers of a superblock that is valid. -/
structure OkS (it sq st : Int) : Prop where
  a1 : 1 ≤ sq
  a2 : sq ≤ 4294967295
  a3 : 16 ≤ it
  a4 : it ≤ 512
  a5 : 0 ≤ st
  a6 : st ≤ it

end Go.Proofs.YtaciallijnhieaaDoor

/- A block that is being encoded, in memory. -/
import Derived.Test.YtaciallijnhieaaDoorImplBegun
namespace Go.Proofs.YtaciallijnhieaaDoor
open Go.RowKit

/-- What lies in memory while a block is encoded: what is encoded, the block that is told, the block that is written. -/
structure Enc (w x : World) (B : Nat) (hd : Obj) (cur : List Value) : Prop where
  b0 : x.heap[w.heap.size]? = some hd
  b1 : x.heap[w.heap.size + 1]? = some (.cells Z64.toArray 58 (0, 0))
  b2 : x.heap[B]? = some (.cells cur.toArray 58 (0, 0))
  lo : w.heap.size + 1 < B
  ch : Chg 0 0 w x

theorem Enc.lt {w x : World} {B : Nat} {hd : Obj} {cur : List Value} (h : Enc w x B hd cur) : B < x.heap.size := (Array.getElem?_eq_some_iff.1 h.b2).1
theorem Enc.chg {w x y : World} {B : Nat} {hd : Obj} {cur : List Value} (h : Enc w x B hd cur) (c : Chg 0 0 x y) : Enc w y B hd cur :=
  have := h.lt
  have := h.lo
  ⟨(c.block _ (by omega) (by omega)).trans h.b0, (c.block _ (by omega) (by omega)).trans h.b1, (c.block _ (by omega) (by omega)).trans h.b2, h.lo, h.ch.trans c⟩
theorem Enc.put {w x y : World} {B : Nat} {hd : Obj} {cur cur' : List Value} (h : Enc w x B hd cur) (c : Chg B (B + 1) x y) (hb : y.heap[B]? = some (.cells cur'.toArray 58 (0, 0))) : Enc w y B hd cur' :=
  have := h.lt
  have := h.lo
  ⟨(c.block _ (by omega) (by omega)).trans h.b0, (c.block _ (by omega) (by omega)).trans h.b1, hb, h.lo, h.ch.step c (by omega)⟩

theorem begL_length {h0 h1 h2 h3 kd it sq : Int} (hi2 : (putN it 2).length = 2) (hq4 : (putN sq 4).length = 4) : (begL h0 h1 h2 h3 kd it sq).length = 64 := by
  unfold begL; simp [hi2, hq4]

end Go.Proofs.YtaciallijnhieaaDoor

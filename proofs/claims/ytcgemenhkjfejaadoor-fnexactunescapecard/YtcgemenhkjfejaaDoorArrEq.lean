/- Arrays of bytes held against each other. -/
import Derived.Test.YtcgemenhkjfejaaDoorStrInj
import Derived.Test.YtcgemenhkjfejaaDoorRows
import Derived.Stop.BytesEq
namespace Go.Proofs.YtcgemenhkjfejaaDoor
open Go.RowKit

theorem byt_cells {xs : List Int} (h : Byt xs) : (xs.map fun n => UInt8.ofNat n.toNat).map Extern.Stop.cell = xs.map (Value.int .u8) := by
  rw [List.map_map]
  refine List.map_congr_left fun x hx => ?_
  have := h x hx
  have e : ((UInt8.ofNat x.toNat).toNat : Int) = x := by rw [UInt8.toNat_ofNat']; omega
  show Value.int .u8 ((UInt8.ofNat x.toNat).toNat : Int) = _
  rw [e]

theorem equal_bytes (w : World) (t : TypeId) (n : Nat) (ht : Tryd.prog.underlying t = some (.array n 5)) {xs ys : List Int} (hx : Byt xs) (hy : Byt ys) (lx : xs.length = n) (ly : ys.length = n) :
    (Op.equalIn 10000 t (.agg (xs.map (Value.int .u8)).toArray) (.agg (ys.map (Value.int .u8)).toArray)).run Tryd.prog w = .ok (decide (xs = ys)) w := by
  have h := run_equalIn_bytes (P := Tryd.prog) w 9998 t 5 n ht Tryd.underlying5 (fun w => by kernel_rfl) (xs.map fun n => UInt8.ofNat n.toNat) (ys.map fun n => UInt8.ofNat n.toNat) (by simpa using lx) (by simpa using ly)
  rw [byt_cells hx, byt_cells hy] at h
  have hb : ((xs.map fun n => UInt8.ofNat n.toNat) == ys.map fun n => UInt8.ofNat n.toNat) = decide (xs = ys) := by
    by_cases e : xs = ys
    · subst e; rw [decide_eq_true rfl]; exact beq_self_eq_true _
    · rw [decide_eq_false e, beq_eq_false_iff_ne]
      exact fun h' => e (str_inj hx hy h')
  rw [h, hb]

end Go.Proofs.YtcgemenhkjfejaaDoor

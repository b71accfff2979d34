/- PutNumber of both. -/
import Derived.Test.YtgmpggloonkfnaaByt
import Derived.Laws.AppendOwnNone
import Derived.Deep.MidRow
namespace Go.Proofs.Ytgmpggloonkfnaa
open Go.RowKit

theorem Try.infoU1 : (Try.prog.info? 5).map (fun i => (i.zero, i.size, i.bytes)) = some (some (.int .u8 0), 1, 1) := by kernel_rfl

/-- The lowest n digits of a number to the base 256, the highest first. -/
def digs (v : Int) : Nat → List Int
  | 0 => []
  | n + 1 => (v / 256 ^ n % 256) :: digs v n

theorem digs_length (v : Int) (n : Nat) : (digs v n).length = n := by
  induction n with
  | zero => rfl
  | succ n ih => simp [digs, ih]

theorem div_next (v : Int) (k : Nat) : v / 256 ^ (k + 1) = v / 256 ^ k / 256 := by
  rw [Int.pow_succ, Int.ediv_ediv_of_nonneg (Int.le_of_lt (Int.pow_pos (by decide)))]

theorem div_nonneg' {v : Int} (h : 0 ≤ v) (k : Nat) : 0 ≤ v / 256 ^ k := Int.ediv_nonneg h (Int.le_of_lt (Int.pow_pos (by decide)))

theorem div_le' {v : Int} (h : 0 ≤ v) (k : Nat) : v / 256 ^ k ≤ v := Int.ediv_le_self _ h

/-- What PutNumber answers. -/
def putN (v n : Int) : List Int := if n < 1 ∨ n > 8 ∨ v < 0 then [] else if v / 256 ^ n.toNat > 0 then [] else digs v n.toNat

/-- What lies in the row when its last k cells are written. -/
theorem digs_set (v : Int) (m k : Nat) (h : k < m) :
    ((List.replicate (m - k) 0 ++ digs v k).map (Value.int .u8)).set (m - k - 1) (.int .u8 (v / 256 ^ k % 256)) = (List.replicate (m - (k + 1)) 0 ++ digs v (k + 1)).map (Value.int .u8) := by
  have e : m - k = (m - (k + 1)) + 1 := by omega
  have e2 : m - k - 1 = m - (k + 1) := by omega
  rw [e2, e, List.replicate_succ', List.append_assoc, List.map_append, List.map_append, List.set_append]
  simp [digs]

end Go.Proofs.Ytgmpggloonkfnaa

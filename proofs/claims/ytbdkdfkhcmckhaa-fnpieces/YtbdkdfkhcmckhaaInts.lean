/- The law's helpers over slices of numbers: toInt64S, eqInt64S, markInt64S. -/
import Derived.Test.YtbdkdfkhcmckhaaRows
import Derived.Test.YtbdkdfkhcmckhaaIntsP
namespace Go.Proofs.Ytbdkdfkhcmckhaa
open Go.RowKit

theorem take_set_dropI (xs : List Int) (k : Nat) (h : k < xs.length) :
    ((xs.take k ++ List.replicate (xs.length - k) 0).map (Value.int .i64)).set k (.int .i64 (xs.getD k 0)) = (xs.take (k + 1) ++ List.replicate (xs.length - (k + 1)) 0).map (Value.int .i64) := by
  have e : xs.length - k = (xs.length - (k + 1)) + 1 := by omega
  rw [e, List.replicate_succ, List.map_append, List.map_cons, List.set_append]
  simp only [List.length_map, List.length_take, Nat.min_eq_left (Nat.le_of_lt h), Nat.lt_irrefl, if_false, Nat.sub_self, List.set_cons_zero]
  rw [List.take_succ_eq_append_getElem h, List.map_append, List.map_append]
  simp [List.getD_eq_getElem?_getD, h]

/-- The marks k, k + 1, .. -/
def marksI (k n : Nat) : List Int := (List.range n).map fun i => ((k + i : Nat) : Int)
theorem marksI_length (k n : Nat) : (marksI k n).length = n := by simp [marksI]
theorem marksI_succ (k0 k : Nat) : marksI k0 (k + 1) = marksI k0 k ++ [((k0 + k : Nat) : Int)] := by
  simp [marksI, List.range_succ]
theorem marksI_set (k0 k : Nat) (xs : List Int) (h : k < xs.length) :
    ((marksI k0 k ++ xs.drop k).map (Value.int .i64)).set k (.int .i64 ((k0 + k : Nat) : Int)) = (marksI k0 (k + 1) ++ xs.drop (k + 1)).map (Value.int .i64) := by
  have hd : xs.drop k = xs[k] :: xs.drop (k + 1) := by simp
  rw [hd, marksI_succ, List.map_append, List.map_cons, List.set_append]
  simp [marksI_length]

end Go.Proofs.Ytbdkdfkhcmckhaa

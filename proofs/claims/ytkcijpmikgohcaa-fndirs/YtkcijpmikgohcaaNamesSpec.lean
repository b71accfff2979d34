/- DirNames of the model. -/
import Derived.Test.YtkcijpmikgohcaaSortSpec
namespace Go.Proofs.Ytkcijpmikgohcaa
open Go.RowKit

def nms (ts : List Ent) (k : Nat) : List ByteArray := (ts.take k).map (·.2)
theorem nms_len (ts : List Ent) {k : Nat} (h : k ≤ ts.length) : (nms ts k).length = k := by simp [nms]; omega
theorem nms_succ (ts : List Ent) {k : Nat} (h : k < ts.length) : nms ts (k + 1) = nms ts k ++ [(ts.getD k Ent.none).2] := by
  unfold nms
  rw [List.take_succ_eq_append_getElem h, List.map_append]
  simp [List.getD_eq_getElem?_getD, h]
def namesD (ts : List Ent) : List ByteArray := if 1000 < ts.length then [] else sortTo (nms ts ts.length) ts.length
theorem namesD_len (ts : List Ent) : (namesD ts).length ≤ ts.length := by
  unfold namesD
  split
  · simp
  · rw [sortTo_len]; exact Nat.le_refl _

end Go.Proofs.Ytkcijpmikgohcaa

/- An inode of the program: twelve cells. -/
import Derived.Test.YtoicchlekcbbgaaInoValid
import Derived.Test.YtoicchlekcbbgaaArrKit
namespace Go.Proofs.Ytoicchlekcbbgaa
open Go.RowKit

/-- The cells of an inode. -/
def nC (i : Ino) : List Value := [.int .i64 i.kind, .int .i64 i.links, .int .i64 i.size] ++ i.dir.map (Value.int .i64) ++ [.int .i64 i.ind]
theorem nC_len {i : Ino} (h : i.dir.length = 8) : (nC i).length = 12 := by unfold nC; simp [h]
theorem nC_one (i : Ino) : ∀ v ∈ nC i, v.oneCell' = true := by
  intro v hv
  unfold nC at hv
  simp only [List.mem_append, List.mem_cons, List.not_mem_nil, or_false, List.mem_map] at hv
  rcases hv with ((rfl | rfl | rfl) | ⟨x, _, rfl⟩) | rfl <;> rfl
theorem nC_0 (i : Ino) : (nC i)[0]? = some (.int .i64 i.kind) := rfl
theorem nC_1 (i : Ino) : (nC i)[1]? = some (.int .i64 i.links) := rfl
theorem nC_2 (i : Ino) : (nC i)[2]? = some (.int .i64 i.size) := rfl
theorem nC_d (i : Ino) {j : Nat} (h : j < i.dir.length) : (nC i)[3 + j]? = some (.int .i64 (i.dir.getD j 0)) := by
  unfold nC
  rw [List.getElem?_append_left (by simp; omega), List.getElem?_append_right (by simp)]
  simp [List.getD_eq_getElem?_getD, h]
theorem nC_i {i : Ino} (h : i.dir.length = 8) : (nC i)[11]? = some (.int .i64 i.ind) := by
  unfold nC
  rw [List.getElem?_append_right (by simp; omega)]
  simp [h]
theorem nC_setd {i : Ino} (h : i.dir.length = 8) {j : Nat} (hj : j < 8) (x : Int) : (nC i).set (3 + j) (.int .i64 x) = nC { i with dir := i.dir.set j x } := by
  unfold nC
  rw [List.append_assoc, List.set_append, if_neg (by simp), List.set_append, if_pos (by simp; omega)]
  simp [List.map_set]
theorem nC_seti {i : Ino} (h : i.dir.length = 8) (x : Int) : (nC i).set 11 (.int .i64 x) = nC { i with ind := x } := by
  unfold nC
  rw [List.set_append, if_neg (by simp; omega)]
  simp [h]
/-- The eight numbers, where they lie. -/
theorem nC_range {w : World} {b : Nat} {T : TypeId} {i : Ino} (h : ArrC w b T (nC i)) : w.rangeAt b 3 (i.dir.map (Value.int .i64)) := by
  intro j v hv
  have hj : j < i.dir.length := by have := (List.getElem?_eq_some_iff.1 hv).1; simpa using this
  rw [h.cell (3 + j) (nC_d i hj), ← hv]
  simp [List.getD_eq_getElem?_getD, hj]

def Z12 : List Value := List.replicate 12 (.int .i64 0)
theorem Z12_eq : (#[.int .i64 0, .int .i64 0, .int .i64 0, .int .i64 0, .int .i64 0, .int .i64 0, .int .i64 0, .int .i64 0, .int .i64 0, .int .i64 0, .int .i64 0, .int .i64 0] : Array Value) = Z12.toArray := by unfold Z12; rfl
theorem Z12_length : Z12.length = 12 := by unfold Z12; simp
def zeroI : Ino := ⟨0, 0, 0, [0, 0, 0, 0, 0, 0, 0, 0], 0⟩
theorem Z12_ino : Z12 = nC zeroI := by unfold Z12; rfl
theorem Try.sizeIno : (Try.prog.info? 36).map (·.size) = some 12 := by kernel_rfl
theorem Try.size8 : (Try.prog.info? 34).map (·.size) = some 8 := by kernel_rfl

theorem eightI {ds : List Int} (h : ds.length = 8) : ∃ a b c d e f g k, ds = [a, b, c, d, e, f, g, k] := by
  match ds, h with
  | [a, b, c, d, e, f, g, k], _ => exact ⟨a, b, c, d, e, f, g, k, rfl⟩

end Go.Proofs.Ytoicchlekcbbgaa

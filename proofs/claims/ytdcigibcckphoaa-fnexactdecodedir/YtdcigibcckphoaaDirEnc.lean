/- EncodeDir of the model. -/
import Derived.Test.YtdcigibcckphoaaEntEnc
import Derived.Test.YtdcigibcckphoaaFindSpec
namespace Go.Proofs.Ytdcigibcckphoaa
open Go.RowKit

/-- Place k is right. -/
def dirAt (ts : List Ent) (k : Nat) : Bool := entB (ts.getD k Ent.none).1 (ts.getD k Ent.none).2 && decide (findD ts (ts.getD k Ent.none).2 = (k : Int))
def dirB (ts : List Ent) : Bool := decide (ts.length ≤ 160) && (List.range ts.length).all (dirAt ts)
/-- The records of the first k. -/
def dirTo (ts : List Ent) : Nat → List Int
  | 0 => []
  | k + 1 => dirTo ts k ++ entL (ts.getD k Ent.none).1 (ts.getD k Ent.none).2
def encDir (ts : List Ent) : List Int := if dirB ts = true then dirTo ts ts.length else []

theorem dirB_iff {ts : List Ent} : dirB ts = true ↔ ts.length ≤ 160 ∧ ∀ k, k < ts.length → dirAt ts k = true := by
  unfold dirB
  simp

theorem dirB_false {ts : List Ent} (h : ¬ (ts.length ≤ 160 ∧ ∀ k, k < ts.length → dirAt ts k = true)) : dirB ts = false := by
  rw [Bool.eq_false_iff]
  exact fun h' => h (dirB_iff.1 h')

theorem dirTo_len {ts : List Ent} : ∀ k, (∀ j, j < k → dirAt ts j = true) → (dirTo ts k).length = 16 * k
  | 0, _ => rfl
  | k + 1, h => by
    have h1 := h k (Nat.lt_succ_self k)
    unfold dirAt at h1
    rw [Bool.and_eq_true] at h1
    show (dirTo ts k ++ _).length = _
    rw [List.length_append, dirTo_len k (fun j hj => h j (by omega)), entL_len h1.1]
    omega

theorem encDir_len (ts : List Ent) : (encDir ts).length ≤ 2560 := by
  unfold encDir
  split
  · rename_i h
    have := dirB_iff.1 h
    rw [dirTo_len _ this.2]
    omega
  · simp

end Go.Proofs.Ytdcigibcckphoaa

/- l10Sorted, DirNames of the model. -/
import Derived.Test.YtkcijpmikgohcaaTextL
import Derived.Test.YtkcijpmikgohcaaEntTo
import Derived.Laws.Cover1
namespace Go.Proofs.Ytkcijpmikgohcaa
open Go.RowKit

/-- a stands behind b. -/
def gtT (a b : ByteArray) : Bool := !(Op.bytesLess a.toList b.toList || a.toList == b.toList)
/-- Where s is put among the first m. -/
def posT (ps : List ByteArray) (s : ByteArray) : Nat → Nat
  | 0 => 0
  | m + 1 => if gtT (ps.getD m noText) s = true then posT ps s m else m + 1
theorem posT_le (ps : List ByteArray) (s : ByteArray) (m : Nat) : posT ps s m ≤ m := by
  induction m with
  | zero => exact Nat.le_refl _
  | succ m ih => unfold posT; split <;> omega
def insT (ps : List ByteArray) (s : ByteArray) : List ByteArray := ps.take (posT ps s ps.length) ++ s :: ps.drop (posT ps s ps.length)
def sortTo (ls : List ByteArray) : Nat → List ByteArray
  | 0 => []
  | k + 1 => insT (sortTo ls k) (ls.getD k noText)
theorem insT_len (ps : List ByteArray) (s : ByteArray) : (insT ps s).length = ps.length + 1 := by
  have := posT_le ps s ps.length
  unfold insT; simp; omega
theorem sortTo_len (ls : List ByteArray) (k : Nat) : (sortTo ls k).length = k := by
  induction k with
  | zero => rfl
  | succ k ih => unfold sortTo; rw [insT_len, ih]

/-- The row while it is shifted: from place t on everything stands one place on. -/
def shiftT (ps : List ByteArray) (t : Nat) : List ByteArray := ps.take t ++ ps.getD t noText :: ps.drop t
theorem shiftT_len (ps : List ByteArray) {t : Nat} (h : t ≤ ps.length) : (shiftT ps t).length = ps.length + 1 := by unfold shiftT; simp; omega
theorem shiftT_get (ps : List ByteArray) {t : Nat} (h : t ≤ ps.length) (j : Nat) : (shiftT ps t).getD j noText = if j ≤ t then ps.getD j noText else ps.getD (j - 1) noText := by
  unfold shiftT
  simp only [List.getD_eq_getElem?_getD]
  by_cases h1 : j < t
  · rw [List.getElem?_append_left (by simp; omega), List.getElem?_take, if_pos h1, if_pos (by omega)]
  · rw [List.getElem?_append_right (by simp; omega), List.length_take, Nat.min_eq_left h]
    by_cases h2 : j = t
    · subst h2; simp
    · rw [if_neg (by omega), show j - t = (j - t - 1) + 1 by omega, List.getElem?_cons_succ, List.getElem?_drop]
      congr 2; omega
theorem ext_getD {a b : List ByteArray} (hl : a.length = b.length) (h : ∀ j, j < a.length → a.getD j noText = b.getD j noText) : a = b := by
  refine List.ext_getElem hl fun j h1 h2 => ?_
  have := h j h1
  simpa [List.getD_eq_getElem?_getD, List.getElem?_eq_getElem h1, List.getElem?_eq_getElem h2] using this
theorem set_getD (a : List ByteArray) (i j : Nat) (x : ByteArray) (h : i < a.length) : (a.set i x).getD j noText = if i = j then x else a.getD j noText := by
  simp only [List.getD_eq_getElem?_getD]
  by_cases e : i = j
  · subst e; rw [List.getElem?_set_self h, if_pos rfl]; rfl
  · rw [List.getElem?_set_ne e, if_neg e]
theorem shiftT_end (ps : List ByteArray) : shiftT ps ps.length = ps ++ [noText] := by
  unfold shiftT; simp [List.getD_eq_getElem?_getD]
theorem shiftT_step (ps : List ByteArray) {t : Nat} (h : t + 1 ≤ ps.length) : (shiftT ps (t + 1)).set (t + 1) (ps.getD t noText) = shiftT ps t := by
  refine ext_getD (by rw [List.length_set, shiftT_len ps h, shiftT_len ps (by omega)]) fun j hj => ?_
  rw [set_getD _ _ _ _ (by rw [shiftT_len ps h]; omega), shiftT_get ps h, shiftT_get ps (by omega)]
  by_cases e : t + 1 = j
  · subst e; rw [if_pos rfl, if_neg (by omega)]; rfl
  · rw [if_neg e]
    by_cases h1 : j ≤ t
    · rw [if_pos (by omega), if_pos h1]
    · rw [if_neg (by omega), if_neg h1]
theorem shiftT_put (ps : List ByteArray) (s : ByteArray) {t : Nat} (h : t ≤ ps.length) : (shiftT ps t).set t s = ps.take t ++ s :: ps.drop t := by
  unfold shiftT
  rw [List.set_append, List.length_take, Nat.min_eq_left h, if_neg (by omega), Nat.sub_self, List.set_cons_zero]

theorem OwnS.cell {w : World} {base : Nat} {e : TypeId} {g n cap : Nat} {ps : List ByteArray} (h : OwnS w base e (.slice (some ⟨g, 0, none⟩) n cap) ps) (hn : ps.length = n) (j : Nat) (hj : j < n) : w.cell? ⟨g, j, none⟩ = some (.string (ps.getD j noText)) ∧ w.frozen? ⟨g, j, none⟩ = false := by
  subst hn
  refine ⟨?_, World.ownsRow.frozenAt h j⟩
  rw [World.ownsRow.cellAt h j (by omega), List.getElem?_map, List.getElem?_eq_getElem hj]
  simp [List.getD_eq_getElem?_getD, List.getElem?_eq_getElem hj]
theorem OwnS.put {w : World} {base : Nat} {e : TypeId} {g n cap : Nat} {ps : List ByteArray} (h : OwnS w base e (.slice (some ⟨g, 0, none⟩) n cap) ps) (hn : ps.length = n) (j : Nat) (s : ByteArray) : OwnS (w.setCell ⟨g, j, none⟩ (.string s)) base e (.slice (some ⟨g, 0, none⟩) n cap) (ps.set j s) := by
  subst hn
  have := (World.ownsRow.stored h j (.string s)).1
  unfold OwnS
  rw [List.length_set, List.map_set]; exact this

end Go.Proofs.Ytkcijpmikgohcaa

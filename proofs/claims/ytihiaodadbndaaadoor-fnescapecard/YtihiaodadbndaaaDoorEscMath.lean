/- What is escaped does not begin with the magic, and comes back. -/
import Derived.Test.YtihiaodadbndaaaDoorBlockKind
import Derived.Test.YtihiaodadbndaaaDoorImplEsc
namespace Go.Proofs.YtihiaodadbndaaaDoor
open Go.RowKit

theorem escL_take {xs : List Int} : (escL xs).take 4 ≠ mg := by
  unfold escL
  split
  · simp [mg]
  · assumption

theorem escL_kind (xs : List Int) : kindOf (escL xs) = 0 := by
  unfold kindOf
  rw [if_neg]
  exact fun h => escL_take h.2.1

theorem escL_byt {xs : List Int} (h : Byt xs) : Byt (escL xs) := by
  unfold escL
  split
  · intro x hx
    simp only [List.mem_append] at hx
    rcases hx with hx | hx
    · simp at hx; omega
    · exact h x (List.mem_of_mem_drop hx)
  · exact h

/-- Back. -/
theorem unesc_esc {xs : List Int} (h : xs.length = 64) : unescD (escL xs) (decide (xs.take 4 = mg)) = xs := by
  have hl := escL_length h
  by_cases hm : xs.take 4 = mg
  · rw [decide_eq_true hm]
    have e : escL xs = [0, 0, 0, 0] ++ xs.drop 4 := by unfold escL; rw [if_pos hm]
    unfold unescD unescB unescL
    rw [if_pos ⟨hl, by rw [e]; simp⟩, if_pos rfl, e, ← hm]
    simp
  · rw [decide_eq_false hm]
    have e : escL xs = xs := by unfold escL; rw [if_neg hm]
    rw [e]
    unfold unescD unescB unescL
    rw [if_pos ⟨h, by simp [hm]⟩]
    simp

/-- The other way: only where the block begins with zeros. -/
theorem unesc_other {xs : List Int} (h : xs.length = 64) : (unescD xs (!decide (xs.take 4 = mg))).length = if xs.take 4 = [0, 0, 0, 0] then 64 else 0 := by
  by_cases hm : xs.take 4 = mg
  · rw [decide_eq_true hm]
    have hz : ¬ xs.take 4 = [0, 0, 0, 0] := by rw [hm]; simp [mg]
    rw [if_neg hz]
    unfold unescD unescB
    simp [hm]
  · rw [decide_eq_false hm]
    by_cases hz : xs.take 4 = [0, 0, 0, 0]
    · rw [if_pos hz]
      unfold unescD unescB
      rw [if_pos ⟨h, by simp [hz]⟩]
      exact unescL_length h _
    · rw [if_neg hz]
      unfold unescD unescB
      simp [hz]

/-- The first four, one by one. -/
theorem take_four {xs : List Int} (h : xs.length = 64) : xs.take 4 = [xs.getD 0 0, xs.getD 1 0, xs.getD 2 0, xs.getD 3 0] := by
  match xs, h with
  | a :: b :: c :: d :: r, _ => simp

end Go.Proofs.YtihiaodadbndaaaDoor

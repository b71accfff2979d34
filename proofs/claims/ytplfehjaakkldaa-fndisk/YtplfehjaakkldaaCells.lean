/- Rows of cells that are written whole. -/
import Derived.Test.YtplfehjaakkldaaMem
import Derived.Deep.MidRow
namespace Go.Proofs.Ytplfehjaakkldaa
open Go.RowKit

theorem Chg.setCells (g : Nat) : ∀ (vs : List Value) (o : Nat) (w : World), Chg g (g + 1) w (w.setCells g o vs)
  | [], _, _ => Chg.refl _ _ _
  | v :: r, o, w => (Chg.setCell (Chg.refl g (g + 1) w) (p := ⟨g, o, none⟩) (Or.inl ⟨Nat.le_refl _, Nat.lt_succ_self _⟩) v).trans (Chg.setCells g r (o + 1) _)

theorem splice_cons {α : Type} (L : List α) (o : Nat) (v : α) (r : List α) (h : o < L.length) : splice (L.set o v) (o + 1) r = splice L o (v :: r) := by
  unfold splice
  have e1 : (L.set o v).take (o + 1) = L.take o ++ [v] := by
    rw [List.take_succ_eq_append_getElem (by simpa using h), List.take_set, List.set_eq_of_length_le (by simp; omega)]
    simp
  have e2 : (L.set o v).drop (o + 1 + r.length) = L.drop (o + (v :: r).length) := by
    rw [List.drop_set_of_lt (by omega)]
    congr 1
    simp only [List.length_cons]; omega
  rw [e1, e2]
  simp

theorem heap_setCells (g : Nat) (t : TypeId) : ∀ (vs : List Value) (o : Nat) (w : World) (L : List Value), w.heap[g]? = some (.cells L.toArray t (0, 0)) → o + vs.length ≤ L.length →
    (w.setCells g o vs).heap[g]? = some (.cells (splice L o vs).toArray t (0, 0))
  | [], o, w, L, h, _ => by simpa [World.setCells, splice] using h
  | v :: r, o, w, L, h, hl => by
    have h1 : (w.setCell ⟨g, o, none⟩ v).heap[g]? = some (.cells (L.set o v).toArray t (0, 0)) := by
      have := heap_setCell_same w g o L.toArray t v h
      simpa using this
    have := heap_setCells g t r (o + 1) _ (L.set o v) h1 (by simp at *; omega)
    rw [splice_cons L o v r (by simp at hl; omega)] at this
    exact this

theorem row_there {w : World} {g : Nat} {L : List Value} {t : TypeId} (h : w.heap[g]? = some (.cells L.toArray t (0, 0))) : w.there g 0 L.length := by
  intro j hj
  rw [Nat.zero_add]
  refine ⟨?_, ?_⟩
  · simp [World.cell?, h, hj]
  · simp [World.frozen?, h]

/-- A row is written whole. -/
theorem wp_store_row {P : Program} {o : Oper} {a : Act} {w : World} {K : Act → World → Prop} {Q : Exit → Act → World → Prop} (T : TypeId) (p v : Operand) (ho : o.op = .store T p v) (hd : o.dst = none) (g : Nat) (hp : a.eval p = .pointer (some ⟨g, 0, none⟩))
    (full L : List Value) (t : TypeId) (hv : a.eval v = .agg full.toArray) (hg : w.heap[g]? = some (.cells L.toArray t (0, 0))) (hl : full.length = L.length) (hi : (P.info? T).map (·.size) = some full.length) (h1 : ∀ v ∈ full, v.oneCell' = true)
    (h : ∀ w', w'.heap[g]? = some (.cells full.toArray t (0, 0)) → Chg g (g + 1) w w' → K a w') : o.wp P a w K Q := by
  have ht : w.there g 0 full.toArray.size := by have := row_there hg; simpa [hl] using this
  refine wp_store_mid T p v ho g 0 full.toArray hp hv ht (by simpa using hi) (by rw [Array.all_eq_true_iff_forall_mem]; intro x hx; exact h1 x (by simpa using hx)) ?_
  rw [hd]
  refine h _ ?_ (Chg.setCells g _ 0 w)
  have := heap_setCells g t full 0 w L hg (by omega)
  have e : splice L 0 full = full := by
    unfold splice
    rw [List.take_zero, List.nil_append, Nat.zero_add, List.drop_of_length_le (by omega), List.append_nil]
  rw [e] at this
  exact this

end Go.Proofs.Ytplfehjaakkldaa

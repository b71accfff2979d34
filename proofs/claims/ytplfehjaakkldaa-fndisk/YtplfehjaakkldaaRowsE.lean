/- Rows of different elements are different rows. -/
import Derived.Test.YtplfehjaakkldaaMem
namespace Go.Proofs.Ytplfehjaakkldaa
open Go.RowKit

theorem OwnB.same {w w' : World} {base : Nat} {e : TypeId} {v : Value} {xs : List Int} (h : OwnB w base e v xs) (hs : ∀ j, v.ownBlock = some j → w'.heap[j]? = w.heap[j]?) : OwnB w' base e v xs := by
  obtain ⟨h1, h2⟩ := h
  refine ⟨h1, ?_⟩
  rcases h2 with h2 | ⟨g, cap, cur, hv, hg, hh, r⟩
  · exact Or.inl h2
  · exact Or.inr ⟨g, cap, cur, hv, hg, (hs g (by rw [hv]; rfl)).trans hh, r⟩

theorem row_elem' {w : World} {base : Nat} {e : TypeId} {size n : Nat} {v : Value} {xs : List Value} (h : w.ownsRow base e size v n xs) {j : Nat} (hj : v.ownBlock = some j) : ∃ cur, w.heap[j]? = some (.cells cur e (0, 0)) := by
  rcases h.2 with ⟨h', _⟩ | ⟨g', cap', cur, h', hb, hg, _⟩
  · rw [h'] at hj; cases hj
  · rw [h'] at hj; cases hj; exact ⟨cur, hg⟩

theorem cells_ne {w : World} {i j : Nat} {c c' : Array Value} {t t' : TypeId} (h : w.heap[i]? = some (.cells c t (0, 0))) (h' : w.heap[j]? = some (.cells c' t' (0, 0))) (ht : t ≠ t') : i ≠ j := by
  intro e
  rw [e, h'] at h
  simp only [Option.some.injEq, Obj.cells.injEq] at h
  exact ht h.2.1.symm

end Go.Proofs.Ytplfehjaakkldaa

/- Bytes of one's own, as they are seen; an empty slice. -/
import Derived.Test.YtgmpggloonkfnaaByt
namespace Go.Proofs.Ytgmpggloonkfnaa
open Go.RowKit

/-- A slice of bytes of one's own that is not empty. -/
theorem OwnB.some_of {w : World} {base : Nat} {e : TypeId} {v : Value} {xs : List Int} (h : OwnB w base e v xs) (h0 : 0 < xs.length) : ∃ g c, v = .slice (some ⟨g, 0, none⟩) xs.length c := by
  rcases h.2 with ⟨_, h'⟩ | ⟨g, gc, cur, rfl, _⟩
  · omega
  · exact ⟨g, gc, rfl⟩

theorem OwnB.seen {w : World} {base : Nat} {e : TypeId} {v : Value} {xs : List Int} (h : OwnB w base e v xs) (hl : xs.length ≤ 1048576) : View w base w.heap.size .u8 v xs :=
  h.view (by omega) (fun g hg => (h.lt g hg).2)

theorem OwnB.bnil (w : World) (base : Nat) (h : base ≤ w.heap.size) : OwnB (w.alloc (.cells #[] 5)) base 5 (.slice (some ⟨w.heap.size, 0, none⟩) 0 0) [] := by
  have := World.ownsRow_lit (base := base) (e := 5) (size := 1) w #[] 0 h (by unfold maxLen; omega) rfl
  simpa [OwnB] using this

end Go.Proofs.Ytgmpggloonkfnaa

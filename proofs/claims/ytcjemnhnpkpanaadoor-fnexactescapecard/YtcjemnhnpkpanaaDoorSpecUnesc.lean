/- Unescape of the model. -/
import Derived.Test.YtcjemnhnpkpanaaDoorSpecBeg
import Derived.Test.YtcjemnhnpkpanaaDoorJoin2
import Derived.Test.YtcjemnhnpkpanaaDoorImplUnesc
import Derived.Deep.RegionWith
import Derived.Deep.DeepCutAuto
namespace Go.Proofs.YtcjemnhnpkpanaaDoor
open Go.RowKit

theorem View.drop4 {w : World} {lo hi b off cap : Nat} {xs : List Int} (h : View w lo hi .u8 (.slice (some ⟨b, off, none⟩) 64 cap) xs) (hx : xs.length = 64) : View w lo hi .u8 (.slice (some ⟨b, off + 4, none⟩) 60 (cap - 4)) (xs.drop 4) := by
  obtain ⟨_, _, e, _, ⟨hc, _⟩, h⟩ := h
  rw [hx] at e
  cases e
  have hlen : (xs.drop 4).length = 60 := by rw [List.length_drop, hx]
  refine ⟨_, _, by rw [hlen], by rw [hlen]; omega, ⟨by rw [hlen]; omega, by simp⟩, ?_⟩
  rcases h with h | ⟨b', off', ha, h1, h2, h3⟩
  · rw [h] at hx; simp at hx
  · cases ha
    refine Or.inr ⟨b, off + 4, rfl, h1, h2, fun i hi => ?_⟩
    rw [hlen] at hi
    have := h3 (4 + i) (by omega)
    rw [Nat.add_assoc, this]
    simp [List.getD_eq_getElem?_getD, List.getElem?_drop]

end Go.Proofs.YtcjemnhnpkpanaaDoor

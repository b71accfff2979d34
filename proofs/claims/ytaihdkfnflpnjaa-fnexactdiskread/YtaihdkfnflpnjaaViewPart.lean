/- A part of what is seen. -/
import Derived.Test.YtaihdkfnflpnjaaMem
namespace Go.Proofs.Ytaihdkfnflpnjaa
open Go.RowKit

/-- A part of a slice of numbers. -/
theorem View.part {w : World} {lo hi b off cap l n : Nat} {k : IntKind} {xs : List Int} (h : View w lo hi k (.slice (some ⟨b, off, none⟩) xs.length cap) xs) (hl : l + n ≤ xs.length) (hn : 0 < n) (c : Nat) (hc : n ≤ c) :
    View w lo hi k (.slice (some ⟨b, off + l, none⟩) n c) ((xs.drop l).take n) := by
  have hlen : ((xs.drop l).take n).length = n := by rw [List.length_take, List.length_drop]; omega
  obtain ⟨ao, cap', e, h0, _, h1⟩ := h
  simp only [Value.slice.injEq] at e
  obtain ⟨e1, _, _⟩ := e
  rcases h1 with h1 | ⟨b', off', e2, h2, h3, h4⟩
  · rw [h1] at hl; simp at hl; omega
  · rw [← e1] at e2
    cases e2
    refine ⟨_, c, by rw [hlen], by rw [hlen]; omega, ⟨by rw [hlen]; exact hc, by simp⟩, Or.inr ⟨b, off + l, rfl, h2, h3, fun i hi => ?_⟩⟩
    rw [hlen] at hi
    rw [Nat.add_assoc, h4 (l + i) (by omega)]
    simp only [List.getD_eq_getElem?_getD, List.getElem?_take, List.getElem?_drop]
    rw [if_pos hi]

end Go.Proofs.Ytaihdkfnflpnjaa

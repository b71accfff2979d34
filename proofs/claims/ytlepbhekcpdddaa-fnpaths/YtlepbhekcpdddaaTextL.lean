/- Lists of texts as they are seen in memory; eqStringS, markStringS, heldStringS of the laws. -/
import Derived.Test.YtlepbhekcpdddaaStrSpec
import Derived.Test.YtlepbhekcpdddaaMarkText
import Derived.Deep.RegionWith
namespace Go.Proofs.Ytlepbhekcpdddaa
open Go.RowKit

def noText : ByteArray := ⟨#[]⟩
def SView (w : World) (lo hi : Nat) (v : Value) (ps : List ByteArray) : Prop :=
  ∃ ao cap, v = .slice ao ps.length cap ∧ ps.length ≤ 9223372036854775807 ∧ ps.length ≤ cap ∧
    (ps = [] ∨ ∃ b off, ao = some ⟨b, off, none⟩ ∧ lo ≤ b ∧ b < hi ∧ ∀ i, i < ps.length → w.cell? ⟨b, off + i, none⟩ = some (.string (ps.getD i noText)))
theorem SView.chg {w w' : World} {lo hi l r : Nat} {v : Value} {ps : List ByteArray} (h : SView w lo hi v ps) (c : Chg l r w w') (d : hi ≤ l ∨ r ≤ lo ∨ r ≤ l) : SView w' lo hi v ps := by
  obtain ⟨ao, cap, hv, h1, h2, h3⟩ := h
  refine ⟨ao, cap, hv, h1, h2, ?_⟩
  rcases h3 with h3 | ⟨b, off, hao, hb, hb', h3⟩
  · exact Or.inl h3
  · exact Or.inr ⟨b, off, hao, hb, hb', fun i hi => c.cell (h3 i hi) (by show b < l ∨ r ≤ b; omega)⟩
theorem SView.slice {w : World} {lo hi : Nat} {v : Value} {ps : List ByteArray} (h : SView w lo hi v ps) : ∃ ao cap, v = .slice ao ps.length cap := by
  obtain ⟨ao, cap, rfl, _⟩ := h; exact ⟨ao, cap, rfl⟩
theorem SView.nil (w : World) (lo hi : Nat) : SView w lo hi (.slice none 0 0) [] := ⟨none, 0, rfl, by simp, by simp, Or.inl rfl⟩
theorem OwnS.view {w : World} {base : Nat} {e : TypeId} {v : Value} {ps : List ByteArray} (h : OwnS w base e v ps) (hl : ps.length ≤ 9223372036854775807) {hi : Nat} (hb : ∀ g, v.ownBlock = some g → g < hi) : SView w base hi v ps := by
  have h' := h
  obtain ⟨_, h2⟩ := h
  rcases h2 with ⟨rfl, h0⟩ | ⟨g, cap, cur, rfl, hg, hh, hc, hm, hs, ht⟩
  · obtain rfl : ps = [] := List.eq_nil_of_length_eq_zero h0
    exact SView.nil _ _ _
  · refine ⟨_, cap, rfl, hl, hc, Or.inr ⟨g, 0, rfl, hg, hb g rfl, fun i hi => ?_⟩⟩
    rw [Nat.zero_add, World.ownsRow.cellAt h' i (by omega), List.getElem?_map, List.getElem?_eq_getElem hi]
    simp [List.getD_eq_getElem?_getD, List.getElem?_eq_getElem hi]

/-- Texts that are marks. -/
def mkT (k0 n : Nat) : List ByteArray := (List.range n).map fun i => mtext (k0 + i)
theorem mkT_len (k0 n : Nat) : (mkT k0 n).length = n := by simp [mkT]
theorem mkT_getD (k0 n i : Nat) (h : i < n) : (mkT k0 n).getD i noText = mtext (k0 + i) := by simp [mkT, List.getD_eq_getElem?_getD, h]
theorem mkT_set (k0 k : Nat) (ps : List ByteArray) (h : k < ps.length) : ((mkT k0 k ++ ps.drop k).map Value.string).set k (.string (mtext (k0 + k))) = (mkT k0 (k + 1) ++ ps.drop (k + 1)).map Value.string := by
  rw [← List.map_set]
  congr 1
  rw [List.set_append, mkT_len, if_neg (by omega), Nat.sub_self, List.drop_eq_getElem_cons h, List.set_cons_zero]
  have : mkT k0 (k + 1) = mkT k0 k ++ [mtext (k0 + k)] := by simp [mkT, List.range_succ]
  rw [this, List.append_assoc]; rfl

end Go.Proofs.Ytlepbhekcpdddaa

/- Functions to range over: what the rounds keep. -/
import Derived.Test.YtbdkdfkhcmckhaaMem
import Derived.Test.YtbdkdfkhcmckhaaRows
import Derived.RangeFuncNested
import Derived.RangeFuncBound
import Derived.RangeFuncCalls
import Derived.RangeFuncLeaves
import Derived.RangeFuncFrom
import Derived.RangeFuncWrites
import Derived.RangeFuncBox
import Derived.Shelf.Abstract
import Derived.Shelf.RegionOpen
import Derived.OwnWalkIn
import Derived.TacticsInMore
import Derived.LoopNIn
import Derived.LoopIn
import Derived.Maps.AppendAt
namespace Go.Proofs.Ytbdkdfkhcmckhaa
open Go.RowKit Go.Shelf
attribute [local go_sem] Oper.semAt_some

/-- What the rounds keep. -/
def KeepK (K : Nat → Prop) (W W' : World) : Prop := ∀ k, K k → W'.heap[k]? = W.heap[k]?
theorem KeepK.trans {K : Nat → Prop} {A B C : World} (h : KeepK K A B) (k : KeepK K B C) : KeepK K A C := fun i hi => (k i hi).trans (h i hi)
theorem KeepK.refl (K : Nat → Prop) (W : World) : KeepK K W W := fun _ _ => rfl
theorem KeepK.put {K : Nat → Prop} {w : World} (hK : ∀ k, K k → k < w.heap.size) (W : World) (l : Nat) (o o' : Obj) (hl : w.heap.size ≤ l) (_ : W.heap[l]? = some o) (_ : o.isCells = false) (_ : o.isWalk = false) : KeepK K W (W.putObj l o') :=
  fun k hk => World.putObj_heap_other (by have := hK k hk; omega)
theorem KeepK.cell {K : Nat → Prop} {W W' : World} (h : KeepK K W W') {p : Addr} (hp : K p.block) : W'.cell? p = W.cell? p := World.cell?_of_block (h _ hp)
theorem View.kept {K : Nat → Prop} {W W' : World} {n₀ : Nat} {k : IntKind} {v : Value} {xs : List Int} (h : View W 0 n₀ k v xs) (c : KeepK K W W') (hK : ∀ i, i < n₀ → K i) : View W' 0 n₀ k v xs := by
  obtain ⟨ao, cap, hv, hl, hc, h⟩ := h
  refine ⟨ao, cap, hv, hl, hc, ?_⟩
  rcases h with h | ⟨b, off, ha, h1, h2, h3⟩
  · exact Or.inl h
  · exact Or.inr ⟨b, off, ha, h1, h2, fun i hi => (c.cell (p := ⟨b, off + i, none⟩) (hK _ h2)).trans (h3 i hi)⟩
theorem View.here {w : World} {lo hi : Nat} {k : IntKind} {v : Value} {xs : List Int} (h : View w lo hi k v xs) : View w 0 w.heap.size k v xs := by
  obtain ⟨ao, cap, hv, hl, hc, h⟩ := h
  refine ⟨ao, cap, hv, hl, hc, ?_⟩
  rcases h with h | ⟨b, off, ha, h1, h2, h3⟩
  · exact Or.inl h
  · cases xs with
    | nil => exact Or.inl rfl
    | cons x xs => exact Or.inr ⟨b, off, ha, Nat.zero_le _, lt_of_cell (h3 0 (by simp)), h3⟩

/-- What is cells is kept where what is none is turned. -/
theorem cells_keep {A B : World} {row : Option Nat} {k : Nat} {cs : Array Value} {t : TypeId} {fr : Nat × Nat} (h : A.heap[k]? = some (.cells cs t fr)) (hg : A.grownBy B row) (hr : ∀ r, row = some r → ∃ o : Obj, A.heap[r]? = some o ∧ o.isCells = false) : B.heap[k]? = some (.cells cs t fr) := by
  refine (hg.block k (Array.getElem?_eq_some_iff.1 h).1 (fun e => ?_)).trans h
  obtain ⟨o, ho, hc⟩ := hr _ e.symm
  rw [h] at ho
  cases ho
  cases hc

theorem Chg.grown0 {w w' : World} (h : Chg 0 0 w w') : w.grownBy w' none := ⟨h.os, h.tape, h.output, h.size, fun k hk _ => h.block k hk (Or.inr (Nat.zero_le _))⟩

end Go.Proofs.Ytbdkdfkhcmckhaa

/- Nodes that came in. -/
import Derived.Test.YtccmeggnkeenoaaOpenP
import Derived.Test.YtccmeggnkeenoaaNodBase
namespace Go.Proofs.Ytccmeggnkeenoaa
open Go.ChangeShapes Go.WideShapes Go.ChangeAt Go.RowKit Go.Joins Go.Deep

set_option maxRecDepth 20000 in
theorem nview_of_trod {H : Type} {enc : TypeId × Value → H} {W : World} {fuel : Nat} {v : Value} {x : DataW H × List MemPlace}
    (h : DataW.trod enc Try.prog W 0 (fun _ => true) true fuel 22 [v] = some x) : ∃ ts, NView W 0 W.heap.size v ts ∧ SizedN ts := by
  have ce : Try.prog.cellsOf 34 = 7 := by kernel_rfl
  rcases open_slice Try.underlying22 h with ⟨hcs, _⟩ | ⟨a, len, cap, m, n, D, Pl, hcs, _, hl, hm, hmm, _, hx⟩
  · simp at hcs; subst hcs; exact ⟨[], NView.nil _ _ _, fun i hi => absurd hi (Nat.not_lt_zero i)⟩
  · simp at hcs hmm; subst hcs
    subst hmm
    unfold maxLen at hm
    by_cases h0 : len = 0
    · subst h0; exact ⟨[], ⟨some a, m, rfl, by simp, by simp, Or.inl rfl⟩, fun i hi => absurd hi (Nat.not_lt_zero i)⟩
    have each : ∀ i, i < len → ∃ t : Nod, (∀ j v, (nodC t)[j]? = some v → W.cell? (a.add (i * 7 + j)) = some v) ∧ OkN t := by
      intro i hi'
      obtain ⟨cs', h1, h2⟩ := hx i (by omega)
      rw [ce] at h1
      obtain ⟨_, hlen, hcell⟩ := World.cells?_some h1
      obtain ⟨xs, k, hk, hxy, _, hxl, hf⟩ := DataW.trod_struct Try.underlying34 h2
      match xs, hxl, cs', hlen with
      | [y0, y1, y2, y3, y4, y5, y6], _, [v0, v1, v2, v3, v4, v5, v6], _ =>
        have t0 : DataW.trod enc Try.prog W 0 (fun _ => true) true k 9 [v0] = some y0 := hf 0 _ rfl
        have t1 : DataW.trod enc Try.prog W 0 (fun _ => true) true k 2 [v1] = some y1 := hf 1 _ rfl
        have t2 : DataW.trod enc Try.prog W 0 (fun _ => true) true k 2 [v2] = some y2 := hf 2 _ rfl
        have t3 : DataW.trod enc Try.prog W 0 (fun _ => true) true k 2 [v3] = some y3 := hf 3 _ rfl
        have t4 : DataW.trod enc Try.prog W 0 (fun _ => true) true k 2 [v4] = some y4 := hf 4 _ rfl
        have t5 : DataW.trod enc Try.prog W 0 (fun _ => true) true k 2 [v5] = some y5 := hf 5 _ rfl
        have t6 : DataW.trod enc Try.prog W 0 (fun _ => true) true k 9 [v6] = some y6 := hf 6 _ rfl
        obtain ⟨s0, e0, _, z0⟩ := DataW.trod_string Try.underlying9 t0
        obtain ⟨q1, e1, _, _⟩ := DataW.trod_int Try.underlying2 t1
        obtain ⟨q2, e2, z2, z2'⟩ := DataW.trod_int Try.underlying2 t2
        obtain ⟨q3, e3, _, _⟩ := DataW.trod_int Try.underlying2 t3
        obtain ⟨q4, e4, _, _⟩ := DataW.trod_int Try.underlying2 t4
        obtain ⟨q5, e5, _, _⟩ := DataW.trod_int Try.underlying2 t5
        obtain ⟨s6, e6, _, z6⟩ := DataW.trod_string Try.underlying9 t6
        simp at e0 e1 e2 e3 e4 e5 e6
        subst e0 e1 e2 e3 e4 e5 e6
        refine ⟨⟨s0, q1, q2, q3, q4, q5, s6⟩, fun j v hj => ?_, ⟨by unfold maxLen at z0; simp only; omega, by unfold maxLen at z6; simp only; omega, ?_⟩⟩
        · have hj7 : j < 7 := by have := (List.getElem?_eq_some_iff.1 hj).1; rwa [nodC_len] at this
          have hc := hcell j (by simpa using hj7)
          rw [add_add] at hc
          rw [hc]
          match j, hj7, hj with
          | 0, _, hj => cases hj; rfl
          | 1, _, hj => cases hj; rfl
          | 2, _, hj => cases hj; rfl
          | 3, _, hj => cases hj; rfl
          | 4, _, hj => cases hj; rfl
          | 5, _, hj => cases hj; rfl
          | 6, _, hj => cases hj; rfl
        · first | exact z2 | exact z2' | exact z2'.1 | exact z2'.2
    have : Inhabited Nod := ⟨Nod.none⟩
    obtain ⟨f, hf⟩ := choose_lt each
    have hp0 : a = ⟨a.block, a.off, none⟩ := by have k0 := (hf 0 (by omega)).1 0 _ rfl; exact (addr_plain (i := 0) (by simpa using k0)).2
    have hp : ∀ i, a.add i = ⟨a.block, a.off + i, none⟩ := fun i => by have k0 := (hf 0 (by omega)).1 0 _ rfl; exact (addr_plain (i := i) (by simpa using k0)).1
    have hlen : ((List.range len).map f).length = len := by simp
    have eg : ∀ i, i < len → ((List.range len).map f).getD i Nod.none = f i := fun i hi => by simp [List.getD_eq_getElem?_getD, hi]
    refine ⟨(List.range len).map f, ⟨some a, m, by rw [hlen], by rw [hlen]; omega, by rw [hlen]; exact hl, Or.inr ⟨a.block, a.off, by rw [← hp0], Nat.zero_le _, ?_, ?_⟩⟩, ?_⟩
    · have k0 := (hf 0 (by omega)).1 0 _ rfl
      rw [hp] at k0
      exact lt_of_cell k0
    · intro i hi'
      rw [hlen] at hi'
      rw [eg i hi']
      intro j v hj
      have := (hf i hi').1 j v hj
      rw [hp, ← Nat.add_assoc] at this
      exact this
    · intro i hi'
      rw [hlen] at hi'
      rw [eg i hi']
      exact (hf i hi').2

end Go.Proofs.Ytccmeggnkeenoaa

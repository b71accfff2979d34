/- Entries that came in. -/
import Derived.Test.YtnodnpphiigcgaaOpenP
import Derived.Test.YtnodnpphiigcgaaEntBase
namespace Go.Proofs.Ytnodnpphiigcgaa
open Go.ChangeShapes Go.WideShapes Go.ChangeAt Go.RowKit Go.Joins Go.Deep

set_option maxRecDepth 20000 in
theorem eview_of_trod {H : Type} {enc : TypeId × Value → H} {W : World} {fuel : Nat} {v : Value} {x : DataW H × List MemPlace}
    (h : DataW.trod enc Try.prog W 0 (fun _ => true) true fuel 22 [v] = some x) : ∃ ts, EView W 0 W.heap.size v ts ∧ Sized ts := by
  rcases open_slice_pairs Try.underlying22 Try.underlying31 (by kernel_rfl) rfl rfl (by kernel_rfl) (by kernel_rfl) h with ⟨hcs, _⟩ | ⟨a, len, cap, m, n, V0, V1, D0, D1, P0, P1, hcs, _, hl, hm, hmm, _, hx⟩
  · simp at hcs; subst hcs; exact ⟨[], EView.nil _ _ _, fun i hi => absurd hi (Nat.not_lt_zero i)⟩
  · simp at hcs hmm; subst hcs
    subst hmm
    unfold maxLen at hm
    by_cases h0 : len = 0
    · subst h0; exact ⟨[], ⟨some a, m, rfl, by simp, by simp, Or.inl rfl⟩, fun i hi => absurd hi (Nat.not_lt_zero i)⟩
    have hp : ∀ i, a.add i = ⟨a.block, a.off + i, none⟩ := fun i => (addr_plain (i := i) (by simpa using (hx 0 (by omega)).1)).1
    have hp0 : a = ⟨a.block, a.off, none⟩ := (addr_plain (i := 0) (by simpa using (hx 0 (by omega)).1)).2
    have each : ∀ i, i < len → ∃ p : Ent, V0 i = .int .i64 p.1 ∧ V1 i = .string p.2 ∧ p.2.size ≤ 9223372036854775807 := by
      intro i hi'
      obtain ⟨_, _, t0, t1⟩ := hx i (by omega)
      obtain ⟨q, hq, _, _⟩ := DataW.trod_int Try.underlying2 t0
      obtain ⟨s, hs, _, hz⟩ := DataW.trod_string Try.underlying9 t1
      simp at hq hs
      exact ⟨(q, s), hq, hs, by unfold maxLen at hz; omega⟩
    obtain ⟨f, hf⟩ := choose_lt each
    have hlen : ((List.range len).map f).length = len := by simp
    have eg : ∀ i, i < len → ((List.range len).map f).getD i Ent.none = f i := fun i hi => by simp [List.getD_eq_getElem?_getD, hi]
    refine ⟨(List.range len).map f, ⟨some a, m, by rw [hlen], by rw [hlen]; omega, by rw [hlen]; exact hl, Or.inr ⟨a.block, a.off, by rw [← hp0], Nat.zero_le _, ?_, ?_⟩⟩, ?_⟩
    · have := (hx 0 (by omega)).1
      rw [hp] at this
      exact lt_of_cell this
    · intro i hi'
      rw [hlen] at hi'
      obtain ⟨k0, k1, _, _⟩ := hx i (by omega)
      obtain ⟨g0, g1, _⟩ := hf i hi'
      rw [hp] at k0 k1
      rw [eg i hi']
      exact ⟨by rw [k0, g0], by rw [Nat.add_assoc, k1, g1]⟩
    · intro i hi'
      rw [hlen] at hi'
      rw [eg i hi']
      exact (hf i hi').2.2

end Go.Proofs.Ytnodnpphiigcgaa

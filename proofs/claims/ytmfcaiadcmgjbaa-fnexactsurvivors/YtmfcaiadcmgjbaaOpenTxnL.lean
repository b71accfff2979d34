/- Transactions that came in. -/
import Derived.Test.YtmfcaiadcmgjbaaOpenP
import Derived.Test.YtmfcaiadcmgjbaaTxnL
namespace Go.Proofs.Ytmfcaiadcmgjbaa
open Go.ChangeShapes Go.WideShapes Go.ChangeAt Go.RowKit Go.Joins Go.Deep

set_option maxRecDepth 20000 in
theorem tsview_of_trod {H : Type} {enc : TypeId × Value → H} {W : World} {fuel : Nat} {v : Value} {x : DataW H × List MemPlace}
    (h : DataW.trod enc Try.prog W 0 (fun _ => true) true fuel 22 [v] = some x) : ∃ ts, TSView W 0 W.heap.size v ts := by
  have ce : Try.prog.cellsOf 37 = 3 := by kernel_rfl
  rcases open_slice Try.underlying22 h with ⟨hcs, _⟩ | ⟨a, len, cap, m, n, D, Pl, hcs, _, hl, hm, hmm, _, hx⟩
  · simp at hcs; subst hcs; exact ⟨[], TSView.nil _ _ _⟩
  · simp at hcs hmm; subst hcs
    subst hmm
    unfold maxLen at hm
    by_cases h0 : len = 0
    · subst h0; exact ⟨[], some a, m, rfl, by simp, by simp, Or.inl rfl⟩
    have each : ∀ i, i < len → ∃ t : Tx, (∃ hv rv, W.cell? (a.add (i * 3)) = some (.int .i64 t.seq) ∧ W.cell? (a.add (i * 3 + 1)) = some hv ∧ W.cell? (a.add (i * 3 + 2)) = some rv ∧ PView W 0 W.heap.size hv t.homes ∧ View W 0 W.heap.size .i64 rv t.revs) := by
      intro i hi'
      obtain ⟨cs', h1, h2⟩ := hx i (by omega)
      rw [ce] at h1
      obtain ⟨_, hlen, hcell⟩ := World.cells?_some h1
      obtain ⟨xs, k, hk, hxy, _, hxl, hf⟩ := DataW.trod_struct Try.underlying37 h2
      match xs, hxl, cs', hlen with
      | [y0, y1, y2], _, [v0, v1, v2], _ =>
        have g0 := hf 0 _ rfl
        have g1 := hf 1 _ rfl
        have g2 := hf 2 _ rfl
        have t0 : DataW.trod enc Try.prog W 0 (fun _ => true) true k 2 [v0] = some y0 := g0
        have t1 : DataW.trod enc Try.prog W 0 (fun _ => true) true k 34 [v1] = some y1 := g1
        have t2 : DataW.trod enc Try.prog W 0 (fun _ => true) true k 35 [v2] = some y2 := g2
        obtain ⟨q, hq, _, _⟩ := DataW.trod_int Try.underlying2 t0
        obtain ⟨ps, hps⟩ := pview_of_trod Try.underlying34 Try.underlying71 (by kernel_rfl) rfl rfl rfl rfl (by kernel_rfl) (by kernel_rfl) Try.underlying2 Try.underlying42 Try.underlying5 (by kernel_rfl) t1
        obtain ⟨zs, hzs⟩ := view_of_trod (k := .i64) Try.underlying35 Try.underlying2 (by kernel_rfl) t2
        simp at hq
        subst hq
        have e0 := hcell 0 (by omega)
        have e1 := hcell 1 (by omega)
        have e2 := hcell 2 (by omega)
        rw [add_add] at e0 e1 e2
        exact ⟨⟨q, ps, zs⟩, v1, v2, by simpa using e0, by simpa using e1, by simpa using e2, hps, hzs⟩
    have : Inhabited Tx := ⟨Tx.none⟩
    obtain ⟨f, hf⟩ := choose_lt each
    have hp0 : a = ⟨a.block, a.off, none⟩ := by obtain ⟨_, _, k0, _⟩ := hf 0 (by omega); exact (addr_plain (i := 0) (by simpa using k0)).2
    have hp : ∀ i, a.add i = ⟨a.block, a.off + i, none⟩ := fun i => by obtain ⟨_, _, k0, _⟩ := hf 0 (by omega); exact (addr_plain (i := i) (by simpa using k0)).1
    have hlen : ((List.range len).map f).length = len := by simp
    refine ⟨(List.range len).map f, some a, m, by rw [hlen], by rw [hlen]; omega, by rw [hlen]; exact hl, Or.inr ⟨a.block, a.off, by rw [← hp0], Nat.zero_le _, ?_, ?_⟩⟩
    · obtain ⟨_, _, k0, _⟩ := hf 0 (by omega)
      rw [hp] at k0
      exact lt_of_cell k0
    · intro i hi'
      rw [hlen] at hi'
      obtain ⟨hv, rv, k0, k1, k2, p, v⟩ := hf i hi'
      have eg : ((List.range len).map f).getD i Tx.none = f i := by simp [List.getD_eq_getElem?_getD, hi']
      rw [hp] at k0 k1 k2
      rw [eg]
      exact ⟨hv, rv, k0, by rw [← k1, Nat.add_assoc], by rw [← k2, Nat.add_assoc], p, v⟩

end Go.Proofs.Ytmfcaiadcmgjbaa

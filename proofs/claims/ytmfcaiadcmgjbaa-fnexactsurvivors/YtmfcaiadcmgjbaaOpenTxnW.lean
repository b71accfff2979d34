/- Transactions that came in; their numbers fit. -/
import Derived.Test.YtmfcaiadcmgjbaaOpenTxnL
import Derived.Test.YtmfcaiadcmgjbaaOpenTxnB
namespace Go.Proofs.Ytmfcaiadcmgjbaa
open Go.ChangeShapes Go.WideShapes Go.ChangeAt Go.RowKit Go.Joins Go.Deep

/-- Their numbers fit. -/
def WfT (ts : List Tx) : Prop := ∀ i, i < ts.length → (∀ x ∈ (ts.getD i Tx.none).revs, (Lit.int .i64 x).wf = true) ∧ (∀ x ∈ (ts.getD i Tx.none).homes, (Lit.int .i64 x.1).wf = true)
theorem WfT.nil : WfT [] := fun _ h => absurd h (Nat.not_lt_zero _)

/-- A slice of writes that came in; their numbers fit. -/
theorem pviewW_of_trod {H : Type} {enc : TypeId × Value → H} {W : World} {fuel t e ti ts tb : Nat} {f0 f1 : Field} {v : Value} {x : DataW H × List MemPlace} (ht : Try.prog.underlying t = some (.slice e)) (he : Try.prog.underlying e = some (.struct #[f0, f1]))
    (ce : Try.prog.cellsOf e = 2) (o0 : f0.offset = 0) (o1 : f1.offset = 1) (e0 : f0.type = ti) (e1 : f1.type = ts) (c0 : Try.prog.cellsOf ti = 1) (c1 : Try.prog.cellsOf ts = 1)
    (hi : Try.prog.underlying ti = some (.int .i64)) (hs : Try.prog.underlying ts = some (.slice tb)) (hb : Try.prog.underlying tb = some (.int .u8)) (hcb : Try.prog.cellsOf tb = 1)
    (h : DataW.trod enc Try.prog W 0 (fun _ => true) true fuel t [v] = some x) : ∃ ps, PView W 0 W.heap.size v ps ∧ ∀ x ∈ ps, (Lit.int .i64 x.1).wf = true := by
  subst e0 e1
  rcases open_slice_pairs ht he ce o0 o1 c0 c1 h with ⟨hcs, _⟩ | ⟨a, len, cap, m, n, V0, V1, D0, D1, P0, P1, hcs, _, hl, hm, hmm, _, hx⟩
  · simp at hcs; subst hcs; exact ⟨[], PView.nil _ _ _, by simp⟩
  · simp at hcs hmm; subst hcs
    subst hmm
    unfold maxLen at hm
    by_cases h0 : len = 0
    · subst h0; exact ⟨[], ⟨some a, m, rfl, by simp, by simp, Or.inl rfl⟩, by simp⟩
    have hp : ∀ i, a.add i = ⟨a.block, a.off + i, none⟩ := fun i => (addr_plain (i := i) (by simpa using (hx 0 (by omega)).1)).1
    have hp0 : a = ⟨a.block, a.off, none⟩ := (addr_plain (i := 0) (by simpa using (hx 0 (by omega)).1)).2
    have each : ∀ i, i < len → ∃ p : Wr, V0 i = .int .i64 p.1 ∧ View W 0 W.heap.size .u8 (V1 i) p.2 ∧ (Lit.int .i64 p.1).wf = true := by
      intro i hi'
      obtain ⟨_, _, t0, t1⟩ := hx i (by omega)
      obtain ⟨q, hq, _, hw⟩ := DataW.trod_int hi t0
      obtain ⟨xs, hxs, _⟩ := view_wfB_of_trod hs hb hcb t1
      simp at hq
      exact ⟨(q, xs), hq, hxs, hw⟩
    have : Inhabited Tx := ⟨Tx.none⟩
    obtain ⟨f, hf⟩ := choose_lt each
    have hlen : ((List.range len).map f).length = len := by simp
    refine ⟨(List.range len).map f, ⟨some a, m, by rw [hlen], by rw [hlen]; omega, by rw [hlen]; exact hl, Or.inr ⟨a.block, a.off, by rw [← hp0], Nat.zero_le _, ?_, ?_⟩⟩, fun x hx => ?_⟩
    · have := (hx 0 (by omega)).1
      rw [hp] at this
      exact lt_of_cell this
    · intro i hi'
      rw [hlen] at hi'
      obtain ⟨k0, k1, _, _⟩ := hx i (by omega)
      obtain ⟨g0, g1, _⟩ := hf i hi'
      have eg : ((List.range len).map f).getD i (0, []) = f i := by simp [List.getD_eq_getElem?_getD, hi']
      rw [hp] at k0 k1
      rw [eg]
      exact ⟨V1 i, by rw [k0, g0], by rw [← k1, Nat.add_assoc], g1⟩
    · obtain ⟨i, hi', rfl⟩ := List.mem_map.1 hx
      exact (hf i (List.mem_range.1 hi')).2.2

set_option maxRecDepth 20000 in
theorem tsviewW_of_trod {H : Type} {enc : TypeId × Value → H} {W : World} {fuel : Nat} {v : Value} {x : DataW H × List MemPlace}
    (h : DataW.trod enc Try.prog W 0 (fun _ => true) true fuel 22 [v] = some x) : ∃ ts, TSView W 0 W.heap.size v ts ∧ WfT ts := by
  have ce : Try.prog.cellsOf 37 = 3 := by kernel_rfl
  rcases open_slice Try.underlying22 h with ⟨hcs, _⟩ | ⟨a, len, cap, m, n, D, Pl, hcs, _, hl, hm, hmm, _, hx⟩
  · simp at hcs; subst hcs; exact ⟨[], TSView.nil _ _ _, WfT.nil⟩
  · simp at hcs hmm; subst hcs
    subst hmm
    unfold maxLen at hm
    by_cases h0 : len = 0
    · subst h0; exact ⟨[], ⟨some a, m, rfl, by simp, by simp, Or.inl rfl⟩, WfT.nil⟩
    have each : ∀ i, i < len → ∃ t : Tx, (∃ hv rv, W.cell? (a.add (i * 3)) = some (.int .i64 t.seq) ∧ W.cell? (a.add (i * 3 + 1)) = some hv ∧ W.cell? (a.add (i * 3 + 2)) = some rv ∧ PView W 0 W.heap.size hv t.homes ∧ View W 0 W.heap.size .i64 rv t.revs) ∧ (∀ x ∈ t.revs, (Lit.int .i64 x).wf = true) ∧ (∀ x ∈ t.homes, (Lit.int .i64 x.1).wf = true) := by
      intro i hi'
      obtain ⟨cs', h1, h2⟩ := hx i (by omega)
      rw [ce] at h1
      obtain ⟨_, hlen, hcell⟩ := World.cells?_some h1
      obtain ⟨xs, k, hk, hxy, _, hxl, hf⟩ := DataW.trod_struct Try.underlying37 h2
      match xs, hxl, cs', hlen with
      | [y0, y1, y2], _, [v0, v1, v2], _ =>
        have g0 := hf 0 _ rfl
        have g1 := hf 1 _ rfl
        have g2 := hf 2 _ rfl
        have t0 : DataW.trod enc Try.prog W 0 (fun _ => true) true k 2 [v0] = some y0 := g0
        have t1 : DataW.trod enc Try.prog W 0 (fun _ => true) true k 34 [v1] = some y1 := g1
        have t2 : DataW.trod enc Try.prog W 0 (fun _ => true) true k 35 [v2] = some y2 := g2
        obtain ⟨q, hq, _, _⟩ := DataW.trod_int Try.underlying2 t0
        obtain ⟨ps, hps, hpw⟩ := pviewW_of_trod Try.underlying34 Try.underlying71 (by kernel_rfl) rfl rfl rfl rfl (by kernel_rfl) (by kernel_rfl) Try.underlying2 Try.underlying42 Try.underlying5 (by kernel_rfl) t1
        obtain ⟨zs, hzs, hzw⟩ := view_wfB_of_trod (k := .i64) Try.underlying35 Try.underlying2 (by kernel_rfl) t2
        simp at hq
        subst hq
        have e0 := hcell 0 (by omega)
        have e1 := hcell 1 (by omega)
        have e2 := hcell 2 (by omega)
        rw [add_add] at e0 e1 e2
        exact ⟨⟨q, ps, zs⟩, ⟨v1, v2, by simpa using e0, by simpa using e1, by simpa using e2, hps, hzs⟩, hzw, hpw⟩
    have : Inhabited Tx := ⟨Tx.none⟩
    obtain ⟨f, hf⟩ := choose_lt each
    have hp0 : a = ⟨a.block, a.off, none⟩ := by obtain ⟨⟨_, _, k0, _⟩, _⟩ := hf 0 (by omega); exact (addr_plain (i := 0) (by simpa using k0)).2
    have hp : ∀ i, a.add i = ⟨a.block, a.off + i, none⟩ := fun i => by obtain ⟨⟨_, _, k0, _⟩, _⟩ := hf 0 (by omega); exact (addr_plain (i := i) (by simpa using k0)).1
    have hlen : ((List.range len).map f).length = len := by simp
    refine ⟨(List.range len).map f, ⟨some a, m, by rw [hlen], by rw [hlen]; omega, by rw [hlen]; exact hl, Or.inr ⟨a.block, a.off, by rw [← hp0], Nat.zero_le _, ?_, ?_⟩⟩, ?_⟩
    · obtain ⟨⟨_, _, k0, _⟩, _⟩ := hf 0 (by omega)
      rw [hp] at k0
      exact lt_of_cell k0
    · intro i hi'
      rw [hlen] at hi'
      obtain ⟨⟨hv, rv, k0, k1, k2, p, v⟩, _⟩ := hf i hi'
      have eg : ((List.range len).map f).getD i Tx.none = f i := by simp [List.getD_eq_getElem?_getD, hi']
      rw [hp] at k0 k1 k2
      rw [eg]
      exact ⟨hv, rv, k0, by rw [← k1, Nat.add_assoc], by rw [← k2, Nat.add_assoc], p, v⟩
    · intro i hi'
      rw [hlen] at hi'
      have eg : ((List.range len).map f).getD i Tx.none = f i := by simp [List.getD_eq_getElem?_getD, hi']
      rw [eg]
      exact (hf i hi').2

end Go.Proofs.Ytmfcaiadcmgjbaa

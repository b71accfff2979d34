/- A slice of operations that came in, as it is seen in memory. -/
import Derived.Test.YtplfehjaakkldaaOpen
import Derived.Test.YtplfehjaakkldaaOps
namespace Go.Proofs.Ytplfehjaakkldaa
open Go.ChangeShapes Go.WideShapes Go.ChangeAt Go.RowKit Go.Joins Go.Deep

set_option maxRecDepth 20000 in
theorem oview_of_trod' {H : Type} {enc : TypeId × Value → H} {W : World} {fuel t e ti ts tb : Nat} {f0 f1 f2 : Field} {v : Value} {x : DataW H × List MemPlace} (ht : Try.prog.underlying t = some (.slice e)) (he : Try.prog.underlying e = some (.struct #[f0, f1, f2]))
    (ce : Try.prog.cellsOf e = 3) (o0 : f0.offset = 0) (o1 : f1.offset = 1) (o2 : f2.offset = 2) (e0 : f0.type = ti) (e1 : f1.type = ti) (e2 : f2.type = ts) (c0 : Try.prog.cellsOf ti = 1) (c1 : Try.prog.cellsOf ts = 1)
    (hi : Try.prog.underlying ti = some (.int .i64)) (hs : Try.prog.underlying ts = some (.slice tb)) (hb : Try.prog.underlying tb = some (.int .u8)) (hcb : Try.prog.cellsOf tb = 1)
    (h : DataW.trod enc Try.prog W 0 (fun _ => true) true fuel t [v] = some x) : ∃ os, OView W 0 W.heap.size v os := by
  rcases open_slice ht h with ⟨hcs, _⟩ | ⟨a, len, cap, m, n, D, Pl, hcs, _, hl, hm, hmm, _, hx⟩
  · simp at hcs; subst hcs; exact ⟨[], OView.nil _ _ _⟩
  · simp at hcs hmm; subst hcs
    subst hmm
    unfold maxLen at hm
    by_cases h0 : len = 0
    · subst h0; exact ⟨[], some a, m, rfl, by simp, by simp, Or.inl rfl⟩
    have each : ∀ i, i < len → ∃ p : Opx × Value, W.cell? (a.add (i * 3)) = some (.int .i64 p.1.1) ∧ W.cell? (a.add (i * 3 + 1)) = some (.int .i64 p.1.2.1) ∧ W.cell? (a.add (i * 3 + 2)) = some p.2 ∧ View W 0 W.heap.size .u8 p.2 p.1.2.2 := by
      intro i hi'
      obtain ⟨cs', h1, h2⟩ := hx i (by omega)
      rw [ce] at h1
      obtain ⟨_, hlen, hcell⟩ := World.cells?_some h1
      obtain ⟨xs, k, hk, hxy, _, hxl, hf⟩ := DataW.trod_struct he h2
      match xs, hxl, cs', hlen with
      | [y0, y1, y2], _, [v0, v1, v2], _ =>
        have g0 := hf 0 f0 rfl
        have g1 := hf 1 f1 rfl
        have g2 := hf 2 f2 rfl
        simp [o0, o1, o2, e0, e1, e2, c0, c1] at g0 g1 g2
        have k0 := hcell 0 (by omega)
        have k1 := hcell 1 (by omega)
        have k2 := hcell 2 (by omega)
        rw [add_add] at k0 k1 k2
        obtain ⟨q0, hq0, _, _⟩ := DataW.trod_int hi g0
        obtain ⟨q1, hq1, _, _⟩ := DataW.trod_int hi g1
        obtain ⟨ys, hys⟩ := view_of_trod hs hb hcb g2
        simp at hq0 hq1
        subst hq0 hq1
        exact ⟨((q0, q1, ys), v2), by simpa using k0, by simpa using k1, by simpa using k2, hys⟩
    obtain ⟨f, hf⟩ := choose_lt each
    have hp : ∀ i, a.add i = ⟨a.block, a.off + i, none⟩ := fun i => (addr_plain (i := i) (by simpa using (hf 0 (by omega)).1)).1
    have hp0 : a = ⟨a.block, a.off, none⟩ := (addr_plain (i := 0) (by simpa using (hf 0 (by omega)).1)).2
    have hlen : ((List.range len).map fun i => (f i).1).length = len := by simp
    refine ⟨(List.range len).map fun i => (f i).1, some a, m, by rw [hlen], by rw [hlen]; omega, by rw [hlen]; exact hl, Or.inr ⟨a.block, a.off, by rw [← hp0], Nat.zero_le _, ?_, ?_⟩⟩
    · have := (hf 0 (by omega)).1
      rw [hp] at this
      exact lt_of_cell this
    · intro i hi'
      rw [hlen] at hi'
      obtain ⟨k0, k1, k2, k3⟩ := hf i hi'
      have eg : ((List.range len).map fun i => (f i).1).getD i Opx.zero = (f i).1 := by simp [List.getD_eq_getElem?_getD, hi']
      rw [hp] at k0 k1 k2
      rw [eg]
      exact ⟨(f i).2, k0, by rw [← k1, Nat.add_assoc], by rw [← k2, Nat.add_assoc], k3⟩

set_option maxRecDepth 20000 in
/-- A list of operations that came in. -/
theorem oview_of_trod {H : Type} {enc : TypeId × Value → H} {W : World} {fuel : Nat} {v : Value} {x : DataW H × List MemPlace}
    (h : DataW.trod enc Try.prog W 0 (fun _ => true) true fuel 57 [v] = some x) : ∃ os, OView W 0 W.heap.size v os :=
  oview_of_trod' Try.underlying57 Try.underlying101 (by kernel_rfl) rfl rfl rfl rfl rfl rfl (by kernel_rfl) (by kernel_rfl) Try.underlying2 Try.underlying22 Try.underlying5 (by kernel_rfl) h

end Go.Proofs.Ytplfehjaakkldaa

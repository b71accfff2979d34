/- What came in, as it is seen in memory: slices of numbers, of writes, a disk. -/
import Derived.Test.YtplfehjaakkldaaRows
import Derived.Test.YtplfehjaakkldaaMem
import Derived.ProofKit
import Derived.OpenShut
import Derived.Carry
import Derived.ChangeOld
import Derived.Below
import Derived.Lib.SmallJoins
import Derived.Deep.SlicePairs
namespace Go.Proofs.Ytplfehjaakkldaa
open Go.ChangeShapes Go.WideShapes Go.ChangeAt Go.RowKit Go.Joins Go.Deep

theorem own : ownKnob Try.prog.godebug = none := by kernel_rfl
theorem laidOut : laidOutB Try.prog = true := by kernel_rfl

theorem addr_plain {w : World} {a : Addr} {x : Value} {i : Nat} (h : w.cell? (a.add 0) = some x) : a.add i = ⟨a.block, a.off + i, none⟩ ∧ a = ⟨a.block, a.off, none⟩ := by
  obtain ⟨b, off, spot⟩ := a
  have hspot : spot = none := by simpa [Addr.add] using World.cell?_spot h
  subst hspot
  exact ⟨Go.WideShapes.add_plain _ _ _, rfl⟩

/-- A slice of numbers that came in. -/
theorem view_of_trod {H : Type} {enc : TypeId × Value → H} {W : World} {fuel t e : Nat} {k : IntKind} {v : Value} {x : DataW H × List MemPlace} (ht : Try.prog.underlying t = some (.slice e)) (he : Try.prog.underlying e = some (.int k)) (hc : Try.prog.cellsOf e = 1)
    (h : DataW.trod enc Try.prog W 0 (fun _ => true) true fuel t [v] = some x) : ∃ xs, View W 0 W.heap.size k v xs := by
  rcases open_ints ht he hc h with ⟨hcs, _⟩ | ⟨a, len, cap, zs, hcs, _, hl, hm, hz, _, hcell, _⟩
  · simp at hcs; subst hcs; exact ⟨[], View.nil _ _ _ _⟩
  · simp at hcs hz; subst hcs
    unfold maxLen at hm
    refine ⟨zs.take len, some a, cap, by rw [List.length_take, Nat.min_eq_left (by omega)], by rw [List.length_take]; omega, ⟨by rw [List.length_take]; omega, by simp⟩, ?_⟩
    by_cases h0 : len = 0
    · left; subst h0; rfl
    · right
      obtain ⟨b, off, rfl, hc2⟩ := ints_at hcell (by omega)
      refine ⟨b, off, rfl, Nat.zero_le _, lt_of_cell (hc2 0 (by omega)), fun i hi => ?_⟩
      rw [List.length_take] at hi
      rw [hc2 i (by omega)]
      simp only [List.getD_eq_getElem?_getD, List.getElem?_take]
      rw [if_pos (by omega)]

/-- A slice of writes that came in. -/
theorem pview_of_trod {H : Type} {enc : TypeId × Value → H} {W : World} {fuel t e ti ts tb : Nat} {f0 f1 : Field} {v : Value} {x : DataW H × List MemPlace} (ht : Try.prog.underlying t = some (.slice e)) (he : Try.prog.underlying e = some (.struct #[f0, f1]))
    (ce : Try.prog.cellsOf e = 2) (o0 : f0.offset = 0) (o1 : f1.offset = 1) (e0 : f0.type = ti) (e1 : f1.type = ts) (c0 : Try.prog.cellsOf ti = 1) (c1 : Try.prog.cellsOf ts = 1)
    (hi : Try.prog.underlying ti = some (.int .i64)) (hs : Try.prog.underlying ts = some (.slice tb)) (hb : Try.prog.underlying tb = some (.int .u8)) (hcb : Try.prog.cellsOf tb = 1)
    (h : DataW.trod enc Try.prog W 0 (fun _ => true) true fuel t [v] = some x) : ∃ ps, PView W 0 W.heap.size v ps := by
  subst e0 e1
  rcases open_slice_pairs ht he ce o0 o1 c0 c1 h with ⟨hcs, _⟩ | ⟨a, len, cap, m, n, V0, V1, D0, D1, P0, P1, hcs, _, hl, hm, hmm, _, hx⟩
  · simp at hcs; subst hcs; exact ⟨[], PView.nil _ _ _⟩
  · simp at hcs hmm; subst hcs
    subst hmm
    unfold maxLen at hm
    by_cases h0 : len = 0
    · subst h0; exact ⟨[], some a, m, rfl, by simp, by simp, Or.inl rfl⟩
    have hp : ∀ i, a.add i = ⟨a.block, a.off + i, none⟩ := fun i => (addr_plain (i := i) (by simpa using (hx 0 (by omega)).1)).1
    have hp0 : a = ⟨a.block, a.off, none⟩ := (addr_plain (i := 0) (by simpa using (hx 0 (by omega)).1)).2
    have each : ∀ i, i < len → ∃ p : Wr, V0 i = .int .i64 p.1 ∧ View W 0 W.heap.size .u8 (V1 i) p.2 := by
      intro i hi'
      obtain ⟨_, _, t0, t1⟩ := hx i (by omega)
      obtain ⟨q, hq, _, _⟩ := DataW.trod_int hi t0
      obtain ⟨xs, hxs⟩ := view_of_trod hs hb hcb t1
      simp at hq
      exact ⟨(q, xs), hq, hxs⟩
    obtain ⟨f, hf⟩ := choose_lt each
    have hlen : ((List.range len).map f).length = len := by simp
    refine ⟨(List.range len).map f, some a, m, by rw [hlen], by rw [hlen]; omega, by rw [hlen]; exact hl, Or.inr ⟨a.block, a.off, by rw [← hp0], Nat.zero_le _, ?_, ?_⟩⟩
    · have := (hx 0 (by omega)).1
      rw [hp] at this
      exact lt_of_cell this
    · intro i hi'
      rw [hlen] at hi'
      obtain ⟨k0, k1, _, _⟩ := hx i (by omega)
      obtain ⟨g0, g1⟩ := hf i hi'
      have eg : ((List.range len).map f).getD i (0, []) = f i := by simp [List.getD_eq_getElem?_getD, hi']
      rw [hp] at k0 k1
      rw [eg]
      exact ⟨V1 i, by rw [k0, g0], by rw [← k1, Nat.add_assoc], g1⟩

set_option maxRecDepth 20000 in
/-- A disk that came in. -/
theorem dview_of_trod {H : Type} {enc : TypeId × Value → H} {W : World} {base : Nat} {v : Value} {dd : DataW H} {p : List MemPlace} (hv : Value.okWide Try.prog W .any base 25 v)
    (h : DataW.Trod enc Try.prog W 0 (fun _ => true) true 25 v dd p) : ∃ d, DView W 0 W.heap.size v d := by
  obtain ⟨v0, v1, y0, y1, n, rfl, _, _, t0, t1⟩ := open_agg2 Try.underlying25 (by kernel_rfl) (by kernel_rfl) hv h
  obtain ⟨xs, hxs⟩ := view_of_trod (k := .u8) Try.underlying22 Try.underlying5 (by kernel_rfl) t0
  obtain ⟨ps, hps⟩ := pview_of_trod Try.underlying23 Try.underlying105 (by kernel_rfl) rfl rfl rfl rfl (by kernel_rfl) (by kernel_rfl) Try.underlying2 Try.underlying22 Try.underlying5 (by kernel_rfl) t1
  exact ⟨⟨xs, ps⟩, v0, v1, rfl, hxs, hps⟩

end Go.Proofs.Ytplfehjaakkldaa

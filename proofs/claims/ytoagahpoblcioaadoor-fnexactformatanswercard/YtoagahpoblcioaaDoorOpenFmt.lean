/- A call and an answer that came in. -/
import Derived.Test.YtoagahpoblcioaaDoorOpenB
import Derived.Test.YtoagahpoblcioaaDoorFmtV
import Derived.Test.YtoagahpoblcioaaDoorLaidSyn
import Derived.WideShapes
import Derived.SliceStrings
namespace Go.Proofs.YtoagahpoblcioaaDoor
open Go.ChangeShapes Go.WideShapes Go.ChangeAt Go.RowKit

theorem in64_of_wf {x : Int} (h : (Lit.int .i64 x).wf = true) : -9223372036854775808 ≤ x ∧ x ≤ 9223372036854775807 := by
  have h2 : IntKind.i64.min ≤ x ∧ x ≤ IntKind.i64.max := by simpa [Lit.wf] using h
  exact h2

theorem call_of_trod {H : Type} {enc : TypeId × Value → H} {W : World} {base : Nat} {v : Value} {dd : DataW H} {p : List MemPlace} (hv : Value.okWide Tryd.prog W .any base 23 v)
    (h : DataW.Trod enc Tryd.prog W 0 (fun _ => true) true 23 v dd p) : ∃ (kind : Int) (path to' : ByteArray) (ch co cs : Int) (cd : ByteArray), v = .agg (cCall kind path to' ch co cs cd) ∧ path.size ≤ 9223372036854775807 ∧ to'.size ≤ 9223372036854775807 ∧ cd.size ≤ 9223372036854775807 := by
  obtain ⟨cs, rfl, hsz⟩ := okWide_struct Tryd.underlying23 hv
  obtain ⟨c0, c1, c2, c3, c4, c5, c6, rfl⟩ : ∃ c0 c1 c2 c3 c4 c5 c6, cs = #[c0, c1, c2, c3, c4, c5, c6] := by
    have h5 : cs.size = 7 := hsz.trans (by kernel_rfl)
    obtain ⟨l⟩ := cs
    match l, h5 with
    | [c0, c1, c2, c3, c4, c5, c6], _ => exact ⟨c0, c1, c2, c3, c4, c5, c6, rfl⟩
  obtain ⟨fuel, hf⟩ := h
  obtain ⟨xs, n, _, _, _, hlen, hx⟩ := DataW.trod_struct Tryd.underlying23 hf
  match xs, hlen with
  | [y0, y1, y2, y3, y4, y5, y6], _ =>
  have hc : Tryd.prog.cellsOf 2 = 1 := by kernel_rfl
  have hc2 : Tryd.prog.cellsOf 9 = 1 := by kernel_rfl
  have t0 : DataW.trod enc Tryd.prog W 0 (fun _ => true) true n 2 [c0] = some y0 := by have := hx 0 _ rfl; simpa [hc, Value.cells] using this
  have t1 : DataW.trod enc Tryd.prog W 0 (fun _ => true) true n 9 [c1] = some y1 := by have := hx 1 _ rfl; simpa [hc2, Value.cells] using this
  have t2 : DataW.trod enc Tryd.prog W 0 (fun _ => true) true n 9 [c2] = some y2 := by have := hx 2 _ rfl; simpa [hc2, Value.cells] using this
  have t3 : DataW.trod enc Tryd.prog W 0 (fun _ => true) true n 2 [c3] = some y3 := by have := hx 3 _ rfl; simpa [hc, Value.cells] using this
  have t4 : DataW.trod enc Tryd.prog W 0 (fun _ => true) true n 2 [c4] = some y4 := by have := hx 4 _ rfl; simpa [hc, Value.cells] using this
  have t5 : DataW.trod enc Tryd.prog W 0 (fun _ => true) true n 2 [c5] = some y5 := by have := hx 5 _ rfl; simpa [hc, Value.cells] using this
  have t6 : DataW.trod enc Tryd.prog W 0 (fun _ => true) true n 9 [c6] = some y6 := by have := hx 6 _ rfl; simpa [hc2, Value.cells] using this
  obtain ⟨q0, h0, _⟩ := DataW.trod_int Tryd.underlying2 t0
  obtain ⟨s1, h1, _, z1⟩ := DataW.trod_string Tryd.underlying9 t1
  obtain ⟨s2, h2, _, z2⟩ := DataW.trod_string Tryd.underlying9 t2
  obtain ⟨q3, h3, _⟩ := DataW.trod_int Tryd.underlying2 t3
  obtain ⟨q4, h4, _⟩ := DataW.trod_int Tryd.underlying2 t4
  obtain ⟨q5, h5, _⟩ := DataW.trod_int Tryd.underlying2 t5
  obtain ⟨s6, h6, _, z6⟩ := DataW.trod_string Tryd.underlying9 t6
  simp at h0 h1 h2 h3 h4 h5 h6
  unfold maxLen at z1 z2 z6
  exact ⟨q0, s1, s2, q3, q4, q5, s6, by rw [h0, h1, h2, h3, h4, h5, h6], by omega, by omega, by omega⟩

/-- Texts that came in. -/
theorem sview_of_trod {H : Type} {enc : TypeId × Value → H} {W : World} {fuel : Nat} {v : Value} {x : DataW H × List MemPlace}
    (h : DataW.trod enc Tryd.prog W 0 (fun _ => true) true fuel 24 [v] = some x) : ∃ ps, SView W 0 W.heap.size v ps ∧ ∀ p ∈ ps, p.size ≤ 9223372036854775807 := by
  rcases open_strings Tryd.underlying24 Tryd.underlying9 (by kernel_rfl) h with ⟨hcs, _⟩ | ⟨a, len, cap, ss, hcs, _, hl, hm, hz, _, hcell, hsz⟩
  · simp at hcs; subst hcs; exact ⟨[], SView.nil _ _ _, by simp⟩
  · simp at hcs hz; subst hcs
    unfold maxLen at hm
    refine ⟨ss.take len, ⟨some a, cap, by rw [List.length_take, Nat.min_eq_left (by omega)], by rw [List.length_take]; omega, by rw [List.length_take]; omega, ?_⟩, fun x hx => by have := hsz x (List.mem_of_mem_take hx); unfold maxLen at this; omega⟩
    by_cases h0 : len = 0
    · left; subst h0; rfl
    · right
      have hc0 := hcell 0 (by omega)
      have hp : ∀ i, a.add i = ⟨a.block, a.off + i, none⟩ := fun i => (addr_plain (i := i) hc0).1
      have hp0 : a = ⟨a.block, a.off, none⟩ := (addr_plain (i := 0) hc0).2
      refine ⟨a.block, a.off, by rw [← hp0], Nat.zero_le _, ?_, fun i hi => ?_⟩
      · rw [hp] at hc0
        exact lt_of_cell hc0
      · rw [List.length_take] at hi
        have h1 := hcell i (by omega)
        rw [hp] at h1
        rw [h1]
        simp only [List.getD_eq_getElem?_getD, List.getElem?_take]
        rw [if_pos (by omega)]
        rfl

set_option maxHeartbeats 1000000 in
theorem ans_of_trod {H : Type} {enc : TypeId × Value → H} {W : World} {base : Nat} {v : Value} {dd : DataW H} {p : List MemPlace} (hv : Value.okWide Tryd.prog W .any base 30 v)
    (h : DataW.Trod enc Tryd.prog W 0 (fun _ => true) true 30 v dd p) : ∃ (code : Int) (data : ByteArray) (na : Option Addr) (nc : Nat) (names : List ByteArray) (handle k l s b sq hd us rn cm : Int), v = .agg (cAns code data (.slice na names.length nc) handle k l s b sq hd us rn cm) ∧ data.size ≤ 9223372036854775807 ∧ SView W 0 W.heap.size (.slice na names.length nc) names ∧ (∀ n ∈ names, n.size ≤ 9223372036854775807) ∧ In64 [code, handle, k, l, s, b, sq, hd, us, rn, cm] := by
  obtain ⟨cs, rfl, hsz⟩ := okWide_struct Tryd.underlying30 hv
  obtain ⟨c0, c1, c2, c3, c4, c5, c6, c7, c8, c9, c10, c11, c12, rfl⟩ : ∃ c0 c1 c2 c3 c4 c5 c6 c7 c8 c9 c10 c11 c12, cs = #[c0, c1, c2, c3, c4, c5, c6, c7, c8, c9, c10, c11, c12] := by
    have h5 : cs.size = 13 := hsz.trans (by kernel_rfl)
    obtain ⟨l⟩ := cs
    match l, h5 with
    | [c0, c1, c2, c3, c4, c5, c6, c7, c8, c9, c10, c11, c12], _ => exact ⟨c0, c1, c2, c3, c4, c5, c6, c7, c8, c9, c10, c11, c12, rfl⟩
  obtain ⟨fuel, hf⟩ := h
  obtain ⟨xs, n, _, _, _, hlen, hx⟩ := DataW.trod_struct Tryd.underlying30 hf
  match xs, hlen with
  | [y0, y1, y2, y3, y4, y5], _ =>
  have hc : Tryd.prog.cellsOf 2 = 1 := by kernel_rfl
  have hc2 : Tryd.prog.cellsOf 9 = 1 := by kernel_rfl
  have hc3 : Tryd.prog.cellsOf 24 = 1 := by kernel_rfl
  have hc4 : Tryd.prog.cellsOf 26 = 4 := by kernel_rfl
  have hc5 : Tryd.prog.cellsOf 28 = 5 := by kernel_rfl
  have t0 : DataW.trod enc Tryd.prog W 0 (fun _ => true) true n 2 [c0] = some y0 := by have := hx 0 _ rfl; simpa [hc, Value.cells] using this
  have t1 : DataW.trod enc Tryd.prog W 0 (fun _ => true) true n 9 [c1] = some y1 := by have := hx 1 _ rfl; simpa [hc2, Value.cells] using this
  have t2 : DataW.trod enc Tryd.prog W 0 (fun _ => true) true n 24 [c2] = some y2 := by have := hx 2 _ rfl; simpa [hc3, Value.cells] using this
  have t3 : DataW.trod enc Tryd.prog W 0 (fun _ => true) true n 2 [c3] = some y3 := by have := hx 3 _ rfl; simpa [hc, Value.cells] using this
  have t4 : DataW.trod enc Tryd.prog W 0 (fun _ => true) true n 26 [c4, c5, c6, c7] = some y4 := by have := hx 4 _ rfl; simpa [hc4, Value.cells] using this
  have t5 : DataW.trod enc Tryd.prog W 0 (fun _ => true) true n 28 [c8, c9, c10, c11, c12] = some y5 := by have := hx 5 _ rfl; simpa [hc5, Value.cells] using this
  obtain ⟨us', n4, _, _, _, hlen4, hx4⟩ := DataW.trod_struct Tryd.underlying26 t4
  match us', hlen4 with
  | [u0, u1, u2, u3], _ =>
  obtain ⟨vs', n5, _, _, _, hlen5, hx5⟩ := DataW.trod_struct Tryd.underlying28 t5
  match vs', hlen5 with
  | [v0, v1, v2, v3, v4], _ =>
  obtain ⟨q0, h0, _, w0⟩ := DataW.trod_int Tryd.underlying2 t0
  obtain ⟨s1, h1, _, z1⟩ := DataW.trod_string Tryd.underlying9 t1
  obtain ⟨q3, h3, _, w3⟩ := DataW.trod_int Tryd.underlying2 t3
  obtain ⟨names, hN, hNz⟩ := sview_of_trod t2
  obtain ⟨a4, h4, _, w4⟩ := DataW.trod_int Tryd.underlying2 (hx4 0 _ rfl)
  obtain ⟨a5, h5, _, w5⟩ := DataW.trod_int Tryd.underlying2 (hx4 1 _ rfl)
  obtain ⟨a6, h6, _, w6⟩ := DataW.trod_int Tryd.underlying2 (hx4 2 _ rfl)
  obtain ⟨a7, h7, _, w7⟩ := DataW.trod_int Tryd.underlying2 (hx4 3 _ rfl)
  obtain ⟨a8, h8, _, w8⟩ := DataW.trod_int Tryd.underlying2 (hx5 0 _ rfl)
  obtain ⟨a9, h9, _, w9⟩ := DataW.trod_int Tryd.underlying2 (hx5 1 _ rfl)
  obtain ⟨a10, h10, _, w10⟩ := DataW.trod_int Tryd.underlying2 (hx5 2 _ rfl)
  obtain ⟨a11, h11, _, w11⟩ := DataW.trod_int Tryd.underlying2 (hx5 3 _ rfl)
  obtain ⟨a12, h12, _, w12⟩ := DataW.trod_int Tryd.underlying2 (hx5 4 _ rfl)
  simp [hc] at h0 h1 h3 h4 h5 h6 h7 h8 h9 h10 h11 h12
  unfold maxLen at z1
  obtain ⟨na, nc, rfl⟩ := hN.slice
  refine ⟨q0, s1, na, nc, names, q3, a4, a5, a6, a7, a8, a9, a10, a11, a12, by rw [h0, h1, h3, h4, h5, h6, h7, h8, h9, h10, h11, h12], by omega, hN, hNz, ?_⟩
  intro x hx
  simp only [List.mem_cons, List.not_mem_nil, or_false] at hx
  rcases hx with rfl | rfl | rfl | rfl | rfl | rfl | rfl | rfl | rfl | rfl | rfl
  all_goals exact in64_of_wf (by assumption)

end Go.Proofs.YtoagahpoblcioaaDoor

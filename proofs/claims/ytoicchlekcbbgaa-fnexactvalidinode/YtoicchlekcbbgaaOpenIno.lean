/- An inode that came in. -/
import Derived.Test.YtoicchlekcbbgaaInoSpec
import Derived.Test.YtoicchlekcbbgaaOpenP
namespace Go.Proofs.Ytoicchlekcbbgaa
open Go.ChangeShapes Go.WideShapes Go.ChangeAt Go.RowKit

set_option maxRecDepth 20000 in
theorem ino_of_trod {H : Type} {enc : TypeId × Value → H} {W : World} {base : Nat} {v : Value} {dd : DataW H} {p : List MemPlace} (hv : Value.okWide Try.prog W .any base 24 v)
    (h : DataW.Trod enc Try.prog W 0 (fun _ => true) true 24 v dd p) : ∃ (i : Ino) (ao : Option Addr) (cap : Nat), v = inoV i ao cap ∧ View W 0 W.heap.size .i64 (.slice ao i.dir.length cap) i.dir := by
  obtain ⟨cs, rfl, hsz⟩ := okWide_struct Try.underlying24 hv
  obtain ⟨c0, c1, c2, c3, c4, rfl⟩ : ∃ c0 c1 c2 c3 c4, cs = #[c0, c1, c2, c3, c4] := by
    have h5 : cs.size = 5 := hsz.trans (by kernel_rfl)
    obtain ⟨l⟩ := cs
    match l, h5 with
    | [c0, c1, c2, c3, c4], _ => exact ⟨c0, c1, c2, c3, c4, rfl⟩
  obtain ⟨fuel, hf⟩ := h
  obtain ⟨xs, n, _, _, _, hlen, hx⟩ := DataW.trod_struct Try.underlying24 hf
  match xs, hlen with
  | [y0, y1, y2, y3, y4], _ =>
  have hc : Try.prog.cellsOf 2 = 1 := by kernel_rfl
  have hc2 : Try.prog.cellsOf 22 = 1 := by kernel_rfl
  have t0 : DataW.trod enc Try.prog W 0 (fun _ => true) true n 2 [c0] = some y0 := by have := hx 0 _ rfl; simpa [hc, Value.cells] using this
  have t1 : DataW.trod enc Try.prog W 0 (fun _ => true) true n 2 [c1] = some y1 := by have := hx 1 _ rfl; simpa [hc, Value.cells] using this
  have t2 : DataW.trod enc Try.prog W 0 (fun _ => true) true n 2 [c2] = some y2 := by have := hx 2 _ rfl; simpa [hc, Value.cells] using this
  have t3 : DataW.trod enc Try.prog W 0 (fun _ => true) true n 22 [c3] = some y3 := by have := hx 3 _ rfl; simpa [hc2, Value.cells] using this
  have t4 : DataW.trod enc Try.prog W 0 (fun _ => true) true n 2 [c4] = some y4 := by have := hx 4 _ rfl; simpa [hc, Value.cells] using this
  obtain ⟨q0, h0, _⟩ := DataW.trod_int Try.underlying2 t0
  obtain ⟨q1, h1, _⟩ := DataW.trod_int Try.underlying2 t1
  obtain ⟨q2, h2, _⟩ := DataW.trod_int Try.underlying2 t2
  obtain ⟨zs, hzs⟩ := view_of_trod (k := .i64) Try.underlying22 Try.underlying2 (by kernel_rfl) t3
  obtain ⟨q4, h4, _⟩ := DataW.trod_int Try.underlying2 t4
  simp at h0 h1 h2 h4
  have hz2 := hzs
  obtain ⟨ao, cap, rfl, _⟩ := hz2
  exact ⟨⟨q0, q1, q2, zs, q4⟩, ao, cap, by rw [h0, h1, h2, h4], hzs⟩

end Go.Proofs.Ytoicchlekcbbgaa

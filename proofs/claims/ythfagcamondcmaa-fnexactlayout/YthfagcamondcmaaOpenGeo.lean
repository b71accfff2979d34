/- A geometry that came in: three numbers. -/
import Derived.Test.YthfagcamondcmaaRows
import Derived.Test.YthfagcamondcmaaMem
import Derived.ProofKit
import Derived.OpenShut
import Derived.Carry
import Derived.ChangeOld
import Derived.Below
import Derived.Lib.SmallJoins
namespace Go.Proofs.Ythfagcamondcmaa
open Go.ChangeShapes Go.WideShapes Go.ChangeAt Go.RowKit Go.Joins

theorem array3 {α : Type} {cs : Array α} (h : cs.size = 3) : ∃ c0 c1 c2, cs = #[c0, c1, c2] := by
  obtain ⟨l⟩ := cs
  match l, h with
  | [c0, c1, c2], _ => exact ⟨c0, c1, c2, rfl⟩

set_option maxRecDepth 20000 in
theorem geo_of_trod {H : Type} {enc : TypeId × Value → H} {W : World} {base : Nat} {v : Value} {dd : DataW H} {p : List MemPlace} (hv : Value.okWide Try.prog W .any base 23 v)
    (h : DataW.Trod enc Try.prog W 0 (fun _ => true) true 23 v dd p) : ∃ b l n : Int, v = .agg #[.int .i64 b, .int .i64 l, .int .i64 n] := by
  obtain ⟨cs, rfl, hsz⟩ := okWide_struct Try.underlying23 hv
  obtain ⟨c0, c1, c2, rfl⟩ := array3 (hsz.trans (by kernel_rfl))
  obtain ⟨fuel, hf⟩ := h
  obtain ⟨xs, n, _, _, _, hlen, hx⟩ := DataW.trod_struct Try.underlying23 hf
  match xs, hlen with
  | [y0, y1, y2], _ =>
  have hc : Try.prog.cellsOf 2 = 1 := by kernel_rfl
  have t0 := hx 0 _ rfl
  have t1 := hx 1 _ rfl
  have t2 := hx 2 _ rfl
  obtain ⟨q0, h0, _⟩ := DataW.trod_int Try.underlying2 t0
  obtain ⟨q1, h1, _⟩ := DataW.trod_int Try.underlying2 t1
  obtain ⟨q2, h2, _⟩ := DataW.trod_int Try.underlying2 t2
  simp [hc, Value.cells] at h0 h1 h2
  exact ⟨q0, q1, q2, by rw [h0, h1, h2]⟩

end Go.Proofs.Ythfagcamondcmaa

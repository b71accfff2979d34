/- A log that came in: five numbers. -/
import Derived.Test.YtlpgghooikedoaaRows
import Derived.Test.YtlpgghooikedoaaMem
import Derived.ProofKit
import Derived.OpenShut
import Derived.Carry
import Derived.ChangeOld
import Derived.Below
import Derived.Lib.SmallJoins
namespace Go.Proofs.Ytlpgghooikedoaa
open Go.ChangeShapes Go.WideShapes Go.ChangeAt Go.RowKit Go.Joins

theorem array5 {α : Type} {cs : Array α} (h : cs.size = 5) : ∃ c0 c1 c2 c3 c4, cs = #[c0, c1, c2, c3, c4] := by
  obtain ⟨l⟩ := cs
  match l, h with
  | [c0, c1, c2, c3, c4], _ => exact ⟨c0, c1, c2, c3, c4, rfl⟩

set_option maxRecDepth 20000 in
theorem log_of_trod {H : Type} {enc : TypeId × Value → H} {W : World} {base : Nat} {v : Value} {dd : DataW H} {p : List MemPlace} (hv : Value.okWide Try.prog W .any base 23 v)
    (h : DataW.Trod enc Try.prog W 0 (fun _ => true) true 23 v dd p) : ∃ sz st sq hd us : Int, v = .agg #[.int .i64 sz, .int .i64 st, .int .i64 sq, .int .i64 hd, .int .i64 us] := by
  obtain ⟨cs, rfl, hsz⟩ := okWide_struct Try.underlying23 hv
  obtain ⟨c0, c1, c2, c3, c4, rfl⟩ := array5 (hsz.trans (by kernel_rfl))
  obtain ⟨fuel, hf⟩ := h
  obtain ⟨xs, n, _, _, _, hlen, hx⟩ := DataW.trod_struct Try.underlying23 hf
  match xs, hlen with
  | [y0, y1, y2, y3, y4], _ =>
  have hc : Try.prog.cellsOf 2 = 1 := by kernel_rfl
  have t0 := hx 0 _ rfl
  have t1 := hx 1 _ rfl
  have t2 := hx 2 _ rfl
  have t3 := hx 3 _ rfl
  have t4 := hx 4 _ rfl
  obtain ⟨q0, h0, _⟩ := DataW.trod_int Try.underlying2 t0
  obtain ⟨q1, h1, _⟩ := DataW.trod_int Try.underlying2 t1
  obtain ⟨q2, h2, _⟩ := DataW.trod_int Try.underlying2 t2
  obtain ⟨q3, h3, _⟩ := DataW.trod_int Try.underlying2 t3
  obtain ⟨q4, h4, _⟩ := DataW.trod_int Try.underlying2 t4
  simp [hc, Value.cells] at h0 h1 h2 h3 h4
  exact ⟨q0, q1, q2, q3, q4, by rw [h0, h1, h2, h3, h4]⟩

end Go.Proofs.Ytlpgghooikedoaa

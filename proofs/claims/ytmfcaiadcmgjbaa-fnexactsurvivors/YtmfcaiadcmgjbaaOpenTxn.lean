/- A transaction that came in. -/
import Derived.Test.YtmfcaiadcmgjbaaOpenP
import Derived.Test.YtmfcaiadcmgjbaaTxnBase
namespace Go.Proofs.Ytmfcaiadcmgjbaa
open Go.ChangeShapes Go.WideShapes Go.ChangeAt Go.RowKit Go.Joins Go.Deep

set_option maxRecDepth 20000 in
theorem tview_of_trod {H : Type} {enc : TypeId × Value → H} {W : World} {base : Nat} {v : Value} {dd : DataW H} {p : List MemPlace} (hv : Value.okWide Try.prog W .any base 37 v)
    (h : DataW.Trod enc Try.prog W 0 (fun _ => true) true 37 v dd p) : ∃ t, TView W 0 W.heap.size v t := by
  obtain ⟨v0, v1, v2, y0, y1, y2, n, rfl, _, _, t0, t1, t2⟩ := open_agg3 Try.underlying37 (by kernel_rfl) (by kernel_rfl) hv h
  obtain ⟨q, hq, _, _⟩ := DataW.trod_int Try.underlying2 t0
  obtain ⟨ps, hps⟩ := pview_of_trod Try.underlying34 Try.underlying71 (by kernel_rfl) rfl rfl rfl rfl (by kernel_rfl) (by kernel_rfl) Try.underlying2 Try.underlying42 Try.underlying5 (by kernel_rfl) t1
  obtain ⟨xs, hxs⟩ := view_of_trod (k := .i64) Try.underlying35 Try.underlying2 (by kernel_rfl) t2
  simp at hq
  subst hq
  exact ⟨⟨q, ps, xs⟩, v1, v2, rfl, hps, hxs⟩

end Go.Proofs.Ytmfcaiadcmgjbaa

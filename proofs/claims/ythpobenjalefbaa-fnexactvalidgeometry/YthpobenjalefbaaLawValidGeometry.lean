/- The law on ValidGeometry. -/
import Derived.Test.YthpobenjalefbaaImplGeo
import Derived.Test.YthpobenjalefbaaOpenGeo
import Derived.Test.YthpobenjalefbaaOwn
namespace Go.Proofs.Ythpobenjalefbaa
open Go.ChangeShapes Go.WideShapes Go.ChangeAt Go.RowKit

set_option maxRecDepth 20000 in
set_option maxHeartbeats 1000000 in
theorem lawValidGeometry_walk (w : World) (b l n : Int) :
    Calls Try.prog 3 #[geoV b l n] w fun e w' => e = .returned (.bool true) ∧ Below w.heap.size w w' := by
  have hA : Chg 0 0 w (w.alloc (geoO 23 b l n)) := Chg.alloc (Chg.refl 0 0 w) _
  obtain ⟨q0, q1, q2⟩ := geo3 (heap_new w (geoO 23 b l n))
  go_enter Try.func3, Try.ntmps3
  go_wp2_with fail
  generalize w.alloc (geoO 23 b l n) = w0 at *
  refine (toGeometry_calls _ b l n).mono ?_
  rintro e w1 ⟨rfl, h1⟩
  go_wp2_with fail
  refine (specValidGeometry_calls _ b l n).mono ?_
  rintro e w2 ⟨rfl, h2⟩
  have h2 := h1.trans h2
  have q0 := h2.cell q0 (by omega)
  have q1 := h2.cell q1 (by omega)
  have q2 := h2.cell q2 (by omega)
  have hA := hA.trans h2
  clear h1 h2
  obtain ⟨bv, Hbv⟩ : ∃ x, Hid (x = geoB b l n) := ⟨_, rfl⟩
  rw [← Hbv.out]
  go_wp2_with fail
  refine (toGeometry_calls _ b l n).mono ?_
  rintro e w3 ⟨rfl, h3⟩
  have hA := hA.trans h3
  clear h3 q0 q1 q2
  have hN := implValidGeometry_calls w3 b l n
  rw [← Hbv.out] at hN
  go_wp2_with fail
  refine hN.mono ?_
  rintro e w4 ⟨rfl, h4⟩
  have hA := hA.trans h4
  clear h4 hN
  have hne : (bv != bv) = false := by simp
  go_wp2
  go_ret
  exact ⟨rfl, hA.below (by omega)⟩

set_option maxRecDepth 100000 in
theorem lawValidGeometry_lifted (os : Os) (started : os.Started) (H : Type) (enc : TypeId × Value → H) :
    ReturnsInHanded {} Try.checked os 3 .any (Rows.fnExactValidGeometrySpec.pre6 enc Try.prog Try.f3 Rows.fnExactValidGeometryRow.domain false) (Rows.fnExactValidGeometrySpec.post enc Try.prog Try.f3 false true false false) := by
  refine returnsInHanded_of_change (C := Try.checked) own started (by kernel_rfl) Try.func3
    (ChangeSpec.witness6 (enc := enc) (C := Try.checked) false ⟨#[], #[.agg #[.int .i64 0, .int .i64 0, .int .i64 0]], []⟩ 8 (by kernel_rfl) (by kernel_rfl) (by kernel_rfl) (by kernel_rfl)) ?_
  intro W base args ds gs before hval0 hW hcnd _
  have hval : ∀ (j : Nat) t v, Try.f3.params[j]? = some t → args[j]? = some v → Value.okWide Try.prog W .any base t v := hval0
  have hW' := hW
  obtain ⟨p, q, hA0, hV, rfl, hfz, hnd⟩ := hW
  have hA : DataW.TrodAll enc Try.prog W 0 (fun _ => true) true Try.f3.params.toList args.toList ds p := hA0
  rw [Try.params3] at hA hval
  obtain ⟨v0, vs0, d0, ds0, p0, q0, hargs, rfl, rfl, h0, r0⟩ := trodAll_cons hA
  obtain ⟨rfl, rfl, rfl⟩ := trodAll_nil r0
  obtain rfl : args = #[v0] := by cases args; simp_all
  obtain ⟨rfl, rfl⟩ := trodVars_none hV
  have k0 := h0
  have lt0 : ∀ x ∈ p0, x.block < W.heap.size := by obtain ⟨m, hm⟩ := k0; exact DataW.trod_lt m _ _ _ hm
  obtain ⟨b, l, n, rfl⟩ := geo_of_trod (hval 0 23 v0 rfl rfl) h0
  clear hA0 hval0
  refine (lawValidGeometry_walk W b l n).mono fun e W' ⟨he, bel⟩ => ?_
  subst he
  exact ⟨_, rfl, _, _, _, [], _, [], hW', trodAll_mk1 (shut_bool Try.underlying4 _), (trodAll_cons_mk (Below.trod laidOut (by kernel_rfl) (of_decide_eq_true (by kernel_rfl)) k0 bel lt0) trodAll_mk0), rfl, bel.frame _, fun h => by cases h⟩

theorem fnExactValidGeometry_holds : Rows.FnExactValidGeometrySaid :=
  OpenClaim.holds_of_wide 3 Try.f3 rfl rfl rfl rfl rfl rfl rfl ⟨rfl, rfl, rfl, rfl, rfl⟩ rfl rfl rfl rfl rfl (by kernel_rfl) Try.func3 (by kernel_rfl)
    (of_decide_eq_true (by kernel_rfl)) (by unfold Func.isWrapper; first | (rw [if_pos (by decide +kernel)]; kernel_rfl) | (rw [if_neg (by decide +kernel)]; exact ⟨rfl, rfl⟩))
    (fun os started H enc _ => lawValidGeometry_lifted os started H enc)
#print axioms fnExactValidGeometry_holds
end Go.Proofs.Ythpobenjalefbaa

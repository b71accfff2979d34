/- The law on Layout. -/
import Derived.Test.YthfagcamondcmaaImplGeo
import Derived.Test.YthfagcamondcmaaOpenGeo
import Derived.Test.YthfagcamondcmaaOwn
namespace Go.Proofs.Ythfagcamondcmaa
open Go.ChangeShapes Go.WideShapes Go.ChangeAt Go.RowKit

set_option maxRecDepth 20000 in
set_option maxHeartbeats 1000000 in
theorem lawLayout_walk (w : World) (b l n : Int) :
    Calls Try.prog 3 #[geoV b l n] w fun e w' => e = .returned (.bool true) ∧ Below w.heap.size w w' := by
  have hA : Chg 0 0 w (w.alloc (geoO 23 b l n)) := Chg.alloc (Chg.refl 0 0 w) _
  obtain ⟨q0, q1, q2⟩ := geo3 (heap_new w (geoO 23 b l n))
  have hS := fun w => specLayout_calls w b l n
  have hI := fun w => implLayout_calls w b l n
  obtain ⟨c0, c1, c2, c3, c4, c5, c6, HP⟩ : ∃ c0 c1 c2 c3 c4 c5 c6, Hid (layV b l n = plV c0 c1 c2 c3 c4 c5 c6) := by
    unfold layV
    split
    · exact ⟨_, _, _, _, _, _, _, rfl⟩
    · exact ⟨_, _, _, _, _, _, _, rfl⟩
  rw [HP.out] at hS hI
  clear HP
  go_enter Try.func3, Try.ntmps3
  go_wp2_with fail
  generalize w.alloc (geoO 23 b l n) = w0 at *
  refine (toGeometry_calls _ b l n).mono ?_
  rintro e w1 ⟨rfl, h1⟩
  go_wp2_with fail
  refine (hS _).mono ?_
  rintro e w2 ⟨rfl, h2⟩
  have cB : Chg 0 0 w2 (w2.alloc (plO 25 c0 c1 c2 c3 c4 c5 c6)) := Chg.alloc (Chg.refl 0 0 w2) _
  have h2 := (h1.trans h2).trans cB
  have q0 := h2.cell q0 (by omega)
  have q1 := h2.cell q1 (by omega)
  have q2 := h2.cell q2 (by omega)
  have hA := hA.trans h2
  obtain ⟨⟨r0, r1, r2, r3, r4, r5, r6⟩, _⟩ := seven_all (heap_new w2 (plO 25 c0 c1 c2 c3 c4 c5 c6))
  clear h1 h2 cB
  go_wp2_with fail
  generalize w2.alloc (plO 25 c0 c1 c2 c3 c4 c5 c6) = w2' at *
  refine (toGeometry_calls _ b l n).mono ?_
  rintro e w3 ⟨rfl, h3⟩
  have hA := hA.trans h3
  clear q0 q1 q2
  go_wp2_with fail
  refine (hI _).mono ?_
  rintro e w4 ⟨rfl, h4⟩
  have cB : Chg 0 0 w4 (w4.alloc (plO 25 c0 c1 c2 c3 c4 c5 c6)) := Chg.alloc (Chg.refl 0 0 w4) _
  have h5 := (h3.trans h4).trans cB
  have r0 := h5.cell r0 (by omega)
  have r1 := h5.cell r1 (by omega)
  have r2 := h5.cell r2 (by omega)
  have r3 := h5.cell r3 (by omega)
  have r4 := h5.cell r4 (by omega)
  have r5 := h5.cell r5 (by omega)
  have r6 := h5.cell r6 (by omega)
  have hA := (hA.trans h4).trans cB
  clear h3 h4 h5 cB
  go_wp2_with fail
  refine (eqPlaces_calls _ c0 c1 c2 c3 c4 c5 c6).mono ?_
  rintro e w6 ⟨rfl, h6⟩
  have hA := hA.trans h6
  clear h6 r0 r1 r2 r3 r4 r5 r6
  go_wp2
  go_ret
  exact ⟨rfl, hA.below (by omega)⟩

set_option maxRecDepth 100000 in
theorem lawLayout_lifted (os : Os) (started : os.Started) (H : Type) (enc : TypeId × Value → H) :
    ReturnsInHanded {} Try.checked os 3 .any (Rows.fnExactLayoutSpec.pre6 enc Try.prog Try.f3 Rows.fnExactLayoutRow.domain false) (Rows.fnExactLayoutSpec.post enc Try.prog Try.f3 false true false false) := by
  refine returnsInHanded_of_change (C := Try.checked) own started (by kernel_rfl) Try.func3
    (ChangeSpec.witness6 (enc := enc) (C := Try.checked) false ⟨#[], #[.agg #[.int .i64 0, .int .i64 0, .int .i64 0]], []⟩ 8 (by kernel_rfl) (by kernel_rfl) (by kernel_rfl) (by kernel_rfl)) ?_
  intro W base args ds gs before hval0 hW hcnd _
  have hval : ∀ (j : Nat) t v, Try.f3.params[j]? = some t → args[j]? = some v → Value.okWide Try.prog W .any base t v := hval0
  have hW' := hW
  obtain ⟨p, q, hA0, hV, rfl, hfz, hnd⟩ := hW
  have hA : DataW.TrodAll enc Try.prog W 0 (fun _ => true) true Try.f3.params.toList args.toList ds p := hA0
  rw [Try.params3] at hA hval
  obtain ⟨v0, vs0, d0, ds0, p0, q0, hargs, rfl, rfl, h0, r0⟩ := trodAll_cons hA
  obtain ⟨rfl, rfl, rfl⟩ := trodAll_nil r0
  obtain rfl : args = #[v0] := by cases args; simp_all
  obtain ⟨rfl, rfl⟩ := trodVars_none hV
  have k0 := h0
  have lt0 : ∀ x ∈ p0, x.block < W.heap.size := by obtain ⟨m, hm⟩ := k0; exact DataW.trod_lt m _ _ _ hm
  obtain ⟨b, l, n, rfl⟩ := geo_of_trod (hval 0 23 v0 rfl rfl) h0
  clear hA0 hval0
  refine (lawLayout_walk W b l n).mono fun e W' ⟨he, bel⟩ => ?_
  subst he
  exact ⟨_, rfl, _, _, _, [], _, [], hW', trodAll_mk1 (shut_bool Try.underlying4 _), (trodAll_cons_mk (Below.trod laidOut (by kernel_rfl) (of_decide_eq_true (by kernel_rfl)) k0 bel lt0) trodAll_mk0), rfl, bel.frame _, fun h => by cases h⟩

theorem fnExactLayout_holds : Rows.FnExactLayoutSaid :=
  OpenClaim.holds_of_wide 3 Try.f3 rfl rfl rfl rfl rfl rfl rfl ⟨rfl, rfl, rfl, rfl, rfl⟩ rfl rfl rfl rfl rfl (by kernel_rfl) Try.func3 (by kernel_rfl)
    (of_decide_eq_true (by kernel_rfl)) (by unfold Func.isWrapper; first | (rw [if_pos (by decide +kernel)]; kernel_rfl) | (rw [if_neg (by decide +kernel)]; exact ⟨rfl, rfl⟩))
    (fun os started H enc _ => lawLayout_lifted os started H enc)
#print axioms fnExactLayout_holds
end Go.Proofs.Ythfagcamondcmaa

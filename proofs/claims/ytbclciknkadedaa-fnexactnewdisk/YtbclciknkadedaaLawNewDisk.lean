import Derived.Test.YtbclciknkadedaaNewDisk
import Derived.Test.YtbclciknkadedaaEq
import Derived.Test.YtbclciknkadedaaHeldD
import Derived.ProofKit
import Derived.OpenShut
namespace Go.Proofs.Ytbclciknkadedaa
open Go.ChangeShapes Go.WideShapes Go.ChangeAt Go.RowKit

set_option maxHeartbeats 2000000 in
theorem lawNewDisk_walk (n : Int) (w : World) : Calls Try.prog 3 #[.int .i64 n] w fun e w' => e = .returned (.bool true) ∧ Below w.heap.size w w' := by
  have hcnt := newD_cnt n
  have hfit := newD_fits n
  go_enter Try.func3, Try.ntmps3
  go_wp2_with fail
  refine (specNewDisk_calls _ n).mono ?_
  rintro e wa ⟨va, rfl, oa, ha⟩
  obtain ⟨a0, l0, c0, a0', l0', c0', rfl⟩ := oa.agg
  have s0 := ha.size
  have B0 := heap_new wa (.cells #[.slice a0 l0 c0, .slice a0' l0' c0'] 25)
  have va := oa.view hfit
  go_wp2_with fail
  refine (implNewDisk_calls _ n).mono ?_
  rintro e wc ⟨vg, rfl, og, hc⟩
  obtain ⟨a1, l1, c1, a1', l1', c1', rfl⟩ := og.agg
  have s1 : wa.heap.size < wc.heap.size := by have := hc.size; simp at this; omega
  have B0 := (hc.block wa.heap.size (by simp) (by omega)).trans B0
  obtain ⟨x0, x1, y0, y1⟩ := two_cells B0
  have va := va.chg ((Chg.alloc (Chg.refl 0 0 wa) _).trans hc) (by omega)
  have vg := og.view hfit
  have B1 := heap_new wc (.cells #[.slice a1 l1 c1, .slice a1' l1' c1'] 25)
  have hgw : Chg 0 0 w wc := (ha.alloc _).trans hc
  clear hc ha oa
  have hbs : (wa.alloc (.cells #[.slice a0 l0 c0, .slice a0' l0' c0'] 25)).heap.size = wa.heap.size + 1 := by simp
  rw [hbs] at og vg
  clear hbs
  go_wp2_with fail
  refine (eqDisk_calls _ (vg.chg (Chg.alloc (Chg.refl 0 0 wc) _) (by omega)) (va.chg (Chg.alloc (Chg.refl 0 0 wc) _) (by omega))).mono ?_
  rintro e we ⟨rfl, he⟩
  have s2 : wc.heap.size < we.heap.size := by have := he.size; simp at this; omega
  have B0 := (he.block wa.heap.size (by simp; omega) (by omega)).trans ((Below.heap_alloc _ _ _ s1).trans B0)
  have B1 := (he.block wc.heap.size (by simp) (by omega)).trans B1
  have va := va.chg ((Chg.alloc (Chg.refl 0 0 wc) _).trans he) (by omega)
  have og := og.chg ((Chg.alloc (Chg.refl 0 0 wc) _).trans he) (by omega)
  have hgw := (hgw.alloc _).trans he
  clear x0 x1 y0 y1 he vg
  obtain ⟨x0, x1, y0, y1⟩ := two_cells B1
  go_wp2_with fail
  refine (markDisk_calls _ _ _ (by decide) 1 _ _ hfit (by omega) (by omega) og).mono ?_
  rintro e wf ⟨rfl, om, hm⟩
  have s3 := hm.size
  have B0 := (hm.block wa.heap.size (by omega) (by omega)).trans B0
  have B1 := (hm.block wc.heap.size (by omega) (by omega)).trans B1
  have va := va.chg hm (by omega)
  have vm := om.view (mkD_fits hfit 1)
  have hgw : Chg 0 0 w wf := hgw.step hm (Or.inr (Or.inl (by omega)))
  clear x0 x1 y0 y1 hm og om
  obtain ⟨x0, x1, y0, y1⟩ := two_cells B1
  go_wp2_with fail
  refine (heldDisk_calls _ (newD n) 1 (by omega) vm).mono ?_
  rintro e wg ⟨rfl, hh⟩
  have s4 := hh.size
  have B0 := (hh.block wa.heap.size (by omega) (by omega)).trans B0
  have va := va.chg hh (by omega)
  have hgw : Chg 0 0 w wg := hgw.trans hh
  clear x0 x1 y0 y1 hh vm B1
  have hne : (((1 + cntD (newD n) : Nat) : Int) != ((1 + cntD (newD n) : Nat) : Int)) = false := by simp
  go_wp2_with fail
  refine (implNewDisk_calls _ n).mono ?_
  rintro e wh ⟨vh, rfl, oh, hh⟩
  obtain ⟨a2, l2, c2, a2', l2', c2', rfl⟩ := oh.agg
  have s5 := hh.size
  have s6 : wa.heap.size < wh.heap.size := by omega
  have B0 := (hh.block wa.heap.size (by omega) (by omega)).trans B0
  have va := va.chg hh (by omega)
  have vh := oh.view hfit
  have hgw : Chg 0 0 w wh := hgw.trans hh
  clear hh oh hne
  obtain ⟨x0, x1, y0, y1⟩ := two_cells B0
  go_wp2_with fail
  refine (eqDisk_calls _ (vh.chg (Chg.alloc (Chg.refl 0 0 wh) _) (by omega)) (va.chg (Chg.alloc (Chg.refl 0 0 wh) _) (by omega))).mono ?_
  rintro e wi ⟨rfl, he⟩
  have hgw : Chg 0 0 w wi := (hgw.alloc _).trans he
  clear x0 x1 y0 y1 he vh va B0
  go_wp2
  go_ret
  exact ⟨rfl, hgw.below (by omega)⟩

theorem own : ownKnob Try.prog.godebug = none := by kernel_rfl

set_option maxRecDepth 100000 in
theorem lawNewDisk_lifted (os : Os) (started : os.Started) (H : Type) (enc : TypeId × Value → H) :
    ReturnsInHanded {} Try.checked os 3 .any (Rows.fnExactNewDiskSpec.pre6 enc Try.prog Try.f3 Rows.fnExactNewDiskRow.domain false) (Rows.fnExactNewDiskSpec.post enc Try.prog Try.f3 false true false false) := by
  refine returnsInHanded_of_change (C := Try.checked) own started (by kernel_rfl) Try.func3
    (ChangeSpec.witness6 (enc := enc) (C := Try.checked) false ⟨#[], #[.int .i64 0], []⟩ 8 (by kernel_rfl) (by kernel_rfl) (by kernel_rfl) (by kernel_rfl)) ?_
  intro W base args ds gs before hval0 hW hcnd _
  have hval : ∀ (j : Nat) t v, Try.f3.params[j]? = some t → args[j]? = some v → Value.okWide Try.prog W .any base t v := hval0
  have hW' := hW
  obtain ⟨p, q, hA0, hV, rfl, hfz, hnd⟩ := hW
  have hA : DataW.TrodAll enc Try.prog W 0 (fun _ => true) true Try.f3.params.toList args.toList ds p := hA0
  rw [Try.params3] at hA hval
  obtain ⟨v0, vs0, d0, ds0, p0, q0, hargs, rfl, rfl, h0, r0⟩ := trodAll_cons hA
  obtain ⟨rfl, rfl, rfl⟩ := trodAll_nil r0
  obtain rfl : args = #[v0] := by cases args; simp_all
  obtain ⟨rfl, rfl⟩ := trodVars_none hV
  obtain ⟨a0, rfl, rfl, rfl, w0⟩ := open_int Try.underlying2 (hval 0 2 v0 rfl rfl) h0
  clear hA0 hval0
  simp only [List.append_nil] at hW'
  refine (lawNewDisk_walk a0 W).mono fun e W' ⟨he, bel⟩ => ?_
  subst he
  exact ⟨_, rfl, _, _, _, [], [], [], hW', trodAll_mk1 (shut_bool Try.underlying4 _), (trodAll_cons_mk (shut_int Try.underlying2 w0) trodAll_mk0), rfl, bel.frame _, fun h => by cases h⟩

theorem fnExactNewDisk_holds : Rows.FnExactNewDiskSaid :=
  OpenClaim.holds_of_wide 3 Try.f3 rfl rfl rfl rfl rfl rfl rfl ⟨rfl, rfl, rfl, rfl, rfl⟩ rfl rfl rfl rfl rfl (by kernel_rfl) Try.func3 (by kernel_rfl)
    (of_decide_eq_true (by kernel_rfl)) (by unfold Func.isWrapper; first | (rw [if_pos (by decide +kernel)]; kernel_rfl) | (rw [if_neg (by decide +kernel)]; exact ⟨rfl, rfl⟩))
    (fun os started H enc _ => lawNewDisk_lifted os started H enc)
#print axioms fnExactNewDisk_holds
end Go.Proofs.Ytbclciknkadedaa

/- The law on Spans (made by tools/mklawbb.py). -/
import Derived.Test.YtkjkgdhdomfgjaaImplSpans
import Derived.Test.YtkjkgdhdomfgjaaFlatSpan
import Derived.Test.YtkjkgdhdomfgjaaOpenB
import Derived.ChangeMaps5
namespace Go.Proofs.Ytkjkgdhdomfgjaa
open Go.ChangeShapes Go.WideShapes Go.ChangeAt Go.RowKit Go.ChangeMaps

set_option maxRecDepth 20000 in
set_option maxHeartbeats 2000000 in
theorem lawSpans_walk (w : World) (i1 : Int) (i2 : Int) :
    Calls Try.prog 3 #[.int .i64 i1, .int .i64 i2] w fun e w' => e = .returned (.bool true) ∧ Below w.heap.size w w' := by
  have hN := specSpans_calls w i1 i2
  go_enter Try.func3, Try.ntmps3
  go_wp2_with fail
  refine hN.mono ?_
  rintro e wb ⟨sv, K, rfl, ov, hK, hb⟩
  have sb := hb.size
  have HLn := ov.len
  have vs := ov.view (by omega) (hi := wb.heap.size) (fun g hg => (ov.lt g hg).2)
  obtain ⟨s0, s1, rfl⟩ := vs.slice
  clear hN ov
  have hN := implSpans_calls wb i1 i2
  go_wp2_with fail
  refine hN.mono ?_
  rintro e wd ⟨gv, K', rfl, og, hK', hd⟩
  obtain rfl : K' = K := by have := og.len; omega
  have hD := hb.trans hd
  have sd := hd.size
  have vs := vs.chg hd (by omega)
  have vq := og.view (by omega) (hi := wd.heap.size) (fun g hg => (og.lt g hg).2)
  obtain ⟨t0, t1, rfl⟩ := vq.slice
  clear hd hN hK' hb
  go_wp2_with fail
  refine (eqSpanS_calls _ vq vs).mono ?_
  rintro e we ⟨rfl, he⟩
  have hI := hD.trans he
  have se := he.size
  have og := og.chg he (by intro g _; omega)
  have vs := vs.chg he (by omega)
  clear he hD vq
  obtain ⟨M, HM⟩ : ∃ M : Nat, Hid (1 + K' * 4 = M) := ⟨_, rfl⟩
  have hMb : M ≤ 10000000 := by have := HM.out; omega
  have hN := markSpanS_calls we _ _ _ _ _ 1 wb.heap.size we.heap.size (by omega) (by omega) og (fun g hg => og.lt g hg)
  rw [HM.out] at hN
  go_wp2_with fail
  refine hN.mono ?_
  rintro e wj ⟨rfl, oj, hj⟩
  have hJ : Chg 0 0 w wj := hI.step hj (Or.inr (Or.inl (by omega)))
  have sj := hj.size
  have vs := vs.chg hj (by omega)
  have vj := oj.view (by omega) (hi := wj.heap.size) (fun g hg => (oj.lt g hg).2)
  clear hj hI og oj hN
  have hN := heldSpanS_calls wj 1 _ (by omega) (by omega) vj
  rw [HM.out] at hN
  go_wp2_with fail
  refine hN.mono ?_
  rintro e wk ⟨rfl, hk⟩
  subst hk
  have hL := hJ
  clear hJ vj hN
  have hne : ((M : Int) != (M : Int)) = false := by simp
  have hN := implSpans_calls wk i1 i2
  go_wp2_with fail
  refine hN.mono ?_
  rintro e wm ⟨mv, K2, rfl, om, hK2, hm⟩
  obtain rfl : K2 = K' := by have := om.len; omega
  have hM := hL.trans hm
  have vs := vs.chg hm (by omega)
  have vm := om.view (by omega) (hi := wm.heap.size) (fun g hg => (om.lt g hg).2)
  obtain ⟨m0, m1, rfl⟩ := vm.slice
  clear hm hL hN om hne
  go_wp2_with fail
  refine (eqSpanS_calls _ vm vs).mono ?_
  rintro e wn ⟨rfl, hn⟩
  have hN' := hM.trans hn
  clear hn hM vm vs
  go_wp2
  go_ret
  exact ⟨rfl, hN'.below (by omega)⟩

set_option maxRecDepth 100000 in
theorem lawSpans_lifted (os : Os) (started : os.Started) (H : Type) (enc : TypeId × Value → H) :
    ReturnsInHanded {} Try.checked os 3 .any (Rows.fnExactSpansSpec.pre6 enc Try.prog Try.f3 Rows.fnExactSpansRow.domain false) (Rows.fnExactSpansSpec.post enc Try.prog Try.f3 false true false false) := by
  refine returnsInHanded_of_change (C := Try.checked) own started (by kernel_rfl) Try.func3
    (ChangeSpec.witness6 (enc := enc) (C := Try.checked) false ⟨#[], #[.int .i64 0, .int .i64 0], []⟩ 8 (by kernel_rfl) (by kernel_rfl) (by kernel_rfl) (by kernel_rfl)) ?_
  intro W base args ds gs before hval0 hW hcnd _
  have hval : ∀ (j : Nat) t v, Try.f3.params[j]? = some t → args[j]? = some v → Value.okWide Try.prog W .any base t v := hval0
  have hW' := hW
  obtain ⟨p, q, hA0, hV, rfl, hfz, hnd⟩ := hW
  have hA : DataW.TrodAll enc Try.prog W 0 (fun _ => true) true Try.f3.params.toList args.toList ds p := hA0
  rw [Try.params3] at hA hval
  obtain ⟨v1, vs1, d1, ds1, p1, q1, hargs, rfl, rfl, h1, r1⟩ := trodAll_cons hA
  obtain ⟨v2, vs2, d2, ds2, p2, q2, rfl, rfl, rfl, h2, r2⟩ := trodAll_cons r1
  obtain ⟨rfl, rfl, rfl⟩ := trodAll_nil r2
  obtain rfl : args = #[v1, v2] := by cases args; simp_all
  obtain ⟨rfl, rfl⟩ := trodVars_none hV
  obtain ⟨b1, rfl, rfl, rfl, wb1⟩ := open_int Try.underlying2 (hval 0 2 v1 rfl rfl) h1
  obtain ⟨b2, rfl, rfl, rfl, wb2⟩ := open_int Try.underlying2 (hval 1 2 v2 rfl rfl) h2
  clear hA0 hval0
  refine (lawSpans_walk W b1 b2).mono fun e W' ⟨he, bel⟩ => ?_
  subst he
  exact ⟨_, rfl, _, _, _, [], _, [], hW', trodAll_mk1 (shut_bool Try.underlying4 _), (trodAll_cons_mk (shut_int Try.underlying2 wb1) (trodAll_cons_mk (shut_int Try.underlying2 wb2) trodAll_mk0)), rfl, bel.frame _, fun h => by cases h⟩

theorem fnExactSpans_holds : Rows.FnExactSpansSaid :=
  OpenClaim.holds_of_wide 3 Try.f3 rfl rfl rfl rfl rfl rfl rfl ⟨rfl, rfl, rfl, rfl, rfl⟩ rfl rfl rfl rfl rfl (by kernel_rfl) Try.func3 (by kernel_rfl)
    (of_decide_eq_true (by kernel_rfl)) (by unfold Func.isWrapper; first | (rw [if_pos (by decide +kernel)]; kernel_rfl) | (rw [if_neg (by decide +kernel)]; exact ⟨rfl, rfl⟩))
    (fun os started H enc _ => lawSpans_lifted os started H enc)
#print axioms fnExactSpans_holds
end Go.Proofs.Ytkjkgdhdomfgjaa

/- The law on BitRuns (made by tools/mklawbb.py). -/
import Derived.Test.YtgilnboiipehgaaImplBitRuns
import Derived.Test.YtgilnboiipehgaaFlatFreeRun
import Derived.Test.YtgilnboiipehgaaEqB
import Derived.Test.YtgilnboiipehgaaToB
import Derived.Test.YtgilnboiipehgaaMarkB
import Derived.Test.YtgilnboiipehgaaOpenB
namespace Go.Proofs.Ytgilnboiipehgaa
open Go.ChangeShapes Go.WideShapes Go.ChangeAt Go.RowKit

set_option maxRecDepth 20000 in
set_option maxHeartbeats 2000000 in
theorem lawBitRuns_walk (w : World) {hi : Nat} {a : Value} {xs : List Int} (i1 : Int) (i2 : Int) (hB : Byt xs) (h1 : View w 0 hi .u8 a xs) :
    Calls Try.prog 3 #[a, .int .i64 i1, .int .i64 i2] w fun e w' => e = .returned (.bool true) ∧ Below w.heap.size w w' := by
  have v0 := h1
  obtain ⟨ao, cap, rfl, hl0, _, _⟩ := h1
  by_cases hl : xs.length ≤ 1048576
  case neg =>
    clear v0
    go_enter Try.func3, Try.ntmps3
    go_wp2
    go_ret
    exact ⟨rfl, (Chg.refl 0 0 w).below (by omega)⟩
  go_enter Try.func3, Try.ntmps3
  go_wp2_with fail
  refine (toByteS_calls _ hl v0).mono ?_
  rintro e wa ⟨g, rfl, og, ha⟩
  have vg := og.view (hi := wa.heap.size) (by omega) (fun g hg => (og.lt g hg).2)
  have va := v0.chg ha (by omega)
  have sa := ha.size
  clear og
  have hN := specBitRuns_calls wa i1 i2 hB hl vg
  go_wp2_with fail
  refine hN.mono ?_
  rintro e wb ⟨sv, K, rfl, ov, hK, hb⟩
  have hB' := ha.trans hb
  have vb := va.chg hb (by omega)
  have sb := hb.size
  have HLn := ov.len
  have vs := ov.view (by omega) (hi := wb.heap.size) (fun g hg => (ov.lt g hg).2)
  obtain ⟨s0, s1, rfl⟩ := vs.slice
  clear vg va ha hb hN ov
  go_wp2_with fail
  refine (toByteS_calls _ hl vb).mono ?_
  rintro e wc ⟨g1, rfl, ox, hc⟩
  have hC := hB'.trans hc
  have sc := hc.size
  have vx := ox.view (hi := wc.heap.size) (by omega) (fun g hg => (ox.lt g hg).2)
  have hgx := (ox.lt g1 rfl).2
  have vc := vb.chg hc (by omega)
  have vs := vs.chg hc (by omega)
  clear hc hB' vb
  have hN := implBitRuns_calls wc i1 i2 hB hl vx
  go_wp2_with fail
  refine hN.mono ?_
  rintro e wd ⟨gv, K', rfl, og, hK', hd⟩
  obtain rfl : K' = K := by have := og.len; omega
  have hD := hC.trans hd
  have sd := hd.size
  have ox := ox.chg hd (by intro g _; omega)
  have vd := vc.chg hd (by omega)
  have vs := vs.chg hd (by omega)
  have vq := og.view (by omega) (hi := wd.heap.size) (fun g hg => (og.lt g hg).2)
  obtain ⟨t0, t1, rfl⟩ := vq.slice
  clear hd hC vc hN vx hK'
  go_wp2_with fail
  refine (eqFreeRunS_calls _ vq vs).mono ?_
  rintro e we ⟨rfl, he⟩
  have hE := hD.trans he
  have se := he.size
  have ox := ox.chg he (by intro g _; omega)
  have og := og.chg he (by intro g _; omega)
  have vd := vd.chg he (by omega)
  have vs := vs.chg he (by omega)
  clear he hD vq
  go_wp2_with fail
  refine (toByteS_calls _ hl vd).mono ?_
  rintro e wf ⟨g2, rfl, oz, hf⟩
  have hF := hE.trans hf
  have sf := hf.size
  have ox := ox.chg hf (by intro g _; omega)
  have og := og.chg hf (by intro g _; omega)
  have vx := ox.view (hi := wf.heap.size) (by omega) (fun g hg => (ox.lt g hg).2)
  have vy := oz.view (hi := wf.heap.size) (by omega) (fun g hg => (oz.lt g hg).2)
  have vd := vd.chg hf (by omega)
  have vs := vs.chg hf (by omega)
  clear hf hE oz
  go_wp2_with fail
  refine (eqByteS_calls _ vx vy).mono ?_
  rintro e wg ⟨rfl, hg⟩
  have hG := hF.trans (hg.chg 0 0)
  have sg := (hg.chg 0 0).size
  have ox := ox.chg (hg.chg 0 0) (by intro g _; omega)
  have og := og.chg (hg.chg 0 0) (by intro g _; omega)
  have vd := vd.same hg
  have vs := vs.chg (hg.chg 0 0) (by omega)
  clear hg hF vx vy
  have oxw : ∀ g, (Value.slice (some ⟨g1, 0, none⟩) xs.length xs.length).ownBlock = some g → wb.heap.size ≤ g ∧ g < wc.heap.size := by
    intro g hg
    cases hg
    exact ⟨(ox.lt g1 rfl).1, hgx⟩
  go_wp2_with fail
  refine (markByteS_calls _ _ _ _ _ 1 wb.heap.size wc.heap.size (by omega) (by omega) ox oxw).mono ?_
  rintro e wh ⟨rfl, _, hh, _, _⟩
  have hH : Chg 0 0 w wh := hG.step hh (Or.inr (Or.inl (by omega)))
  have sh := hh.size
  have og := og.chg hh (fun g hg => by have := (og.lt g hg).1; omega)
  have vs := vs.chg hh (by omega)
  have vq := og.view (by omega) (hi := wh.heap.size) (fun g hg => (og.lt g hg).2)
  clear hh hG ox oxw vd
  have hk0 : ¬ (((1 + xs.length : Nat) : Int) < 0) := by omega
  go_wp2_with fail
  refine (eqFreeRunS_calls _ vq vs).mono ?_
  rintro e wi ⟨rfl, hi'⟩
  have hI := hH.trans hi'
  have si := hi'.size
  have og := og.chg hi' (by intro g _; omega)
  have vs := vs.chg hi' (by omega)
  clear hi' hH vq
  obtain ⟨M, HM⟩ : ∃ M : Nat, Hid (1 + K' * 2 = M) := ⟨_, rfl⟩
  have hMb : M ≤ 10000000 := by have := HM.out; omega
  have hN := markFreeRunS_calls wi _ _ _ _ _ 1 wc.heap.size wi.heap.size (by omega) (by omega) og (fun g hg => og.lt g hg)
  rw [HM.out] at hN
  go_wp2_with fail
  refine hN.mono ?_
  rintro e wj ⟨rfl, oj, hj⟩
  have hJ : Chg 0 0 w wj := hI.step hj (Or.inr (Or.inl (by omega)))
  have sj := hj.size
  have vs := vs.chg hj (by omega)
  have vj := oj.view (by omega) (hi := wj.heap.size) (fun g hg => (oj.lt g hg).2)
  clear hj hI og oj hN
  have hN := heldFreeRunS_calls wj 1 _ (by omega) (by omega) vj
  rw [HM.out] at hN
  go_wp2_with fail
  refine hN.mono ?_
  rintro e wk ⟨rfl, hk⟩
  subst hk
  have hK := hJ
  clear hJ vj hN
  have hne : ((M : Int) != (M : Int)) = false := by simp
  have v9 := v0.chg hK (by omega)
  go_wp2_with fail
  refine (toByteS_calls _ hl v9).mono ?_
  rintro e wl ⟨g3, rfl, ol, hl'⟩
  have hL := hK.trans hl'
  have sl := hl'.size
  have vs := vs.chg hl' (by omega)
  have vl := ol.view (hi := wl.heap.size) (by omega) (fun g hg => (ol.lt g hg).2)
  clear hl' hK ol hne v9
  have hN := implBitRuns_calls wl i1 i2 hB hl vl
  go_wp2_with fail
  refine hN.mono ?_
  rintro e wm ⟨mv, K2, rfl, om, hK2, hm⟩
  obtain rfl : K2 = K' := by have := om.len; omega
  have hM := hL.trans hm
  have vs := vs.chg hm (by omega)
  have vm := om.view (by omega) (hi := wm.heap.size) (fun g hg => (om.lt g hg).2)
  obtain ⟨m0, m1, rfl⟩ := vm.slice
  clear hm hL hN om vl
  go_wp2_with fail
  refine (eqFreeRunS_calls _ vm vs).mono ?_
  rintro e wn ⟨rfl, hn⟩
  have hN' := hM.trans hn
  clear hn hM vm vs
  go_wp2
  go_ret
  exact ⟨rfl, hN'.below (by omega)⟩

set_option maxRecDepth 100000 in
theorem lawBitRuns_lifted (os : Os) (started : os.Started) (H : Type) (enc : TypeId × Value → H) :
    ReturnsInHanded {} Try.checked os 3 .any (Rows.fnExactBitRunsSpec.pre6 enc Try.prog Try.f3 Rows.fnExactBitRunsRow.domain false) (Rows.fnExactBitRunsSpec.post enc Try.prog Try.f3 false true false false) := by
  refine returnsInHanded_of_change (C := Try.checked) own started (by kernel_rfl) Try.func3
    (ChangeSpec.witness6 (enc := enc) (C := Try.checked) false ⟨#[], #[.slice none 0 0, .int .i64 0, .int .i64 0], []⟩ 8 (by kernel_rfl) (by kernel_rfl) (by kernel_rfl) (by kernel_rfl)) ?_
  intro W base args ds gs before hval0 hW hcnd _
  have hval : ∀ (j : Nat) t v, Try.f3.params[j]? = some t → args[j]? = some v → Value.okWide Try.prog W .any base t v := hval0
  have hW' := hW
  obtain ⟨p, q, hA0, hV, rfl, hfz, hnd⟩ := hW
  have hA : DataW.TrodAll enc Try.prog W 0 (fun _ => true) true Try.f3.params.toList args.toList ds p := hA0
  rw [Try.params3] at hA hval
  obtain ⟨v0, vs0, d0, ds0, p0, q0, hargs, rfl, rfl, h0, r0⟩ := trodAll_cons hA
  obtain ⟨v1, vs1, d1, ds1, p1, q1, rfl, rfl, rfl, h1, r1⟩ := trodAll_cons r0
  obtain ⟨v2, vs2, d2, ds2, p2, q2, rfl, rfl, rfl, h2, r2⟩ := trodAll_cons r1
  obtain ⟨rfl, rfl, rfl⟩ := trodAll_nil r2
  obtain rfl : args = #[v0, v1, v2] := by cases args; simp_all
  obtain ⟨rfl, rfl⟩ := trodVars_none hV
  have k0 := h0
  have lt0 : ∀ x ∈ p0, x.block < W.heap.size := by obtain ⟨m, hm⟩ := k0; exact DataW.trod_lt m _ _ _ hm
  obtain ⟨ka, kl, kcp, rfl⟩ := okWide_slice Try.underlying22 (hval 0 22 v0 rfl rfl)
  obtain ⟨xs, wk, hwf⟩ : ∃ xs, View W 0 W.heap.size .u8 (.slice ka kl kcp) xs ∧ ∀ x ∈ xs, (Lit.int .u8 x).wf = true := by
    obtain ⟨fuel, hf⟩ := h0
    exact view_wf_of_trod Try.underlying22 Try.underlying5 (by kernel_rfl) hf
  obtain ⟨b1, rfl, rfl, rfl, wb1⟩ := open_int Try.underlying2 (hval 1 2 v1 rfl rfl) h1
  obtain ⟨b2, rfl, rfl, rfl, wb2⟩ := open_int Try.underlying2 (hval 2 2 v2 rfl rfl) h2
  clear hA0 hval0
  refine (lawBitRuns_walk W b1 b2 (byt_of_wf hwf) wk).mono fun e W' ⟨he, bel⟩ => ?_
  subst he
  exact ⟨_, rfl, _, _, _, [], _, [], hW', trodAll_mk1 (shut_bool Try.underlying4 _), (trodAll_cons_mk (Below.trod laidOut (by kernel_rfl) (of_decide_eq_true (by kernel_rfl)) k0 bel lt0) (trodAll_cons_mk (shut_int Try.underlying2 wb1) (trodAll_cons_mk (shut_int Try.underlying2 wb2) trodAll_mk0))), rfl, bel.frame _, fun h => by cases h⟩

theorem fnExactBitRuns_holds : Rows.FnExactBitRunsSaid :=
  OpenClaim.holds_of_wide 3 Try.f3 rfl rfl rfl rfl rfl rfl rfl ⟨rfl, rfl, rfl, rfl, rfl⟩ rfl rfl rfl rfl rfl (by kernel_rfl) Try.func3 (by kernel_rfl)
    (of_decide_eq_true (by kernel_rfl)) (by unfold Func.isWrapper; first | (rw [if_pos (by decide +kernel)]; kernel_rfl) | (rw [if_neg (by decide +kernel)]; exact ⟨rfl, rfl⟩))
    (fun os started H enc _ => lawBitRuns_lifted os started H enc)
#print axioms fnExactBitRuns_holds
end Go.Proofs.Ytgilnboiipehgaa

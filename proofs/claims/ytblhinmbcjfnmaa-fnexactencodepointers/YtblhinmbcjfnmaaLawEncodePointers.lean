/- The law on EncodePointers (made by tools/mklawbb.py). -/
import Derived.Test.YtblhinmbcjfnmaaImplPtr
import Derived.Test.YtblhinmbcjfnmaaEqB
import Derived.Test.YtblhinmbcjfnmaaMarkB
import Derived.Test.YtblhinmbcjfnmaaInts
import Derived.Test.YtblhinmbcjfnmaaOpenP
namespace Go.Proofs.Ytblhinmbcjfnmaa
open Go.ChangeShapes Go.WideShapes Go.ChangeAt Go.RowKit

set_option maxRecDepth 20000 in
set_option maxHeartbeats 2000000 in
theorem lawEncodePointers_walk (w : World) {hi : Nat} {a : Value} {xs : List Int} (h1 : View w 0 hi .i64 a xs) :
    Calls Try.prog 3 #[a] w fun e w' => e = .returned (.bool true) ∧ Below w.heap.size w w' := by
  have v0 := h1
  obtain ⟨ao, cap, rfl, hl0, _, _⟩ := h1
  by_cases hl : xs.length ≤ 1048576
  case neg =>
    clear v0
    go_enter Try.func3, Try.ntmps3
    go_wp2
    go_ret
    exact ⟨rfl, (Chg.refl 0 0 w).below (by omega)⟩
  have hul : (encP xs).length ≤ 1048576 := Nat.le_trans (encP_len xs) (by omega)
  go_enter Try.func3, Try.ntmps3
  go_wp2_with fail
  refine (toInt64S_calls _ hl v0).mono ?_
  rintro e wa ⟨g, rfl, og, ha⟩
  have vg := og.view (hi := wa.heap.size) (by omega) (fun g hg => (og.lt g hg).2)
  have va := v0.chg ha (by omega)
  have sa := ha.size
  clear og
  have hN := specEncodePointers_calls wa  hl vg
  go_wp2_with fail
  refine hN.mono ?_
  rintro e wb ⟨sv, rfl, ov, hb⟩
  have hB' := ha.trans hb
  have vb := va.chg hb (by omega)
  have sb := hb.size
  have vs := ov.view (hi := wb.heap.size) (by omega) (fun g hg => (ov.lt g hg).2)
  obtain ⟨s0, s1, s2, rfl⟩ := row_slice ov
  clear vg va ha hb hN ov
  go_wp2_with fail
  refine (toInt64S_calls _ hl vb).mono ?_
  rintro e wc ⟨g1, rfl, ox, hc⟩
  have hC := hB'.trans hc
  have sc := hc.size
  have vx := ox.view (hi := wc.heap.size) (by omega) (fun g hg => (ox.lt g hg).2)
  have hgx := (ox.lt g1 rfl).2
  have vc := vb.chg hc (by omega)
  have vs := vs.chg hc (by omega)
  clear hc hB' vb
  have hN := implEncodePointers_calls wc  hl vx
  go_wp2_with fail
  refine hN.mono ?_
  rintro e wd ⟨gv, rfl, og, hd⟩
  have hD := hC.trans hd
  have sd := hd.size
  have ox := ox.chg hd (by intro g _; omega)
  have vd := vc.chg hd (by omega)
  have vs := vs.chg hd (by omega)
  have vq := og.view (hi := wd.heap.size) (by omega) (fun g hg => (og.lt g hg).2)
  obtain ⟨t0, t1, t2, rfl⟩ := row_slice og
  clear hd hC vc hN vx
  go_wp2_with fail
  refine (eqByteS_calls _ vq vs).mono ?_
  rintro e we ⟨rfl, he⟩
  have hE := hD.trans (he.chg 0 0)
  have se := (he.chg 0 0).size
  have ox := ox.chg (he.chg 0 0) (by intro g _; omega)
  have og := og.chg (he.chg 0 0) (by intro g _; omega)
  have vd := vd.same he
  have vs := vs.same he
  clear he hD vq
  go_wp2_with fail
  refine (toInt64S_calls _ hl vd).mono ?_
  rintro e wf ⟨g2, rfl, oz, hf⟩
  have hF := hE.trans hf
  have sf := hf.size
  have ox := ox.chg hf (by intro g _; omega)
  have og := og.chg hf (by intro g _; omega)
  have vx := ox.view (hi := wf.heap.size) (by omega) (fun g hg => (ox.lt g hg).2)
  have vy := oz.view (hi := wf.heap.size) (by omega) (fun g hg => (oz.lt g hg).2)
  have vd := vd.chg hf (by omega)
  have vs := vs.chg hf (by omega)
  clear hf hE oz
  go_wp2_with fail
  refine (eqInt64S_calls _ vx vy).mono ?_
  rintro e wg ⟨rfl, hg⟩
  have hG := hF.trans (hg.chg 0 0)
  have sg := (hg.chg 0 0).size
  have ox := ox.chg (hg.chg 0 0) (by intro g _; omega)
  have og := og.chg (hg.chg 0 0) (by intro g _; omega)
  have vd := vd.same hg
  have vs := vs.same hg
  clear hg hF vx vy
  have oxw : ∀ g, (Value.slice (some ⟨g1, 0, none⟩) xs.length xs.length).ownBlock = some g → wb.heap.size ≤ g ∧ g < wc.heap.size := by
    intro g hg
    cases hg
    exact ⟨(ox.lt g1 rfl).1, hgx⟩
  go_wp2_with fail
  refine (markInt64S_calls _ _ _ _ _ 1 wb.heap.size wc.heap.size (by omega) (by omega) ox oxw).mono ?_
  rintro e wh ⟨rfl, _, hh, _, _⟩
  have hH : Chg 0 0 w wh := hG.step hh (Or.inr (Or.inl (by omega)))
  have sh := hh.size
  have og := og.chg hh (fun g hg => by have := (og.lt g hg).1; omega)
  have vs := vs.chg hh (by omega)
  have vq := og.view (hi := wh.heap.size) (by omega) (fun g hg => (og.lt g hg).2)
  clear hh hG ox oxw vd
  have hk0 : ¬ (((1 + xs.length : Nat) : Int) < 0) := by omega
  go_wp2_with fail
  refine (eqByteS_calls _ vq vs).mono ?_
  rintro e wi ⟨rfl, hi'⟩
  have hI := hH.trans (hi'.chg 0 0)
  have si := (hi'.chg 0 0).size
  have og := og.chg (hi'.chg 0 0) (by intro g _; omega)
  have vs := vs.same hi'
  clear hi' hH vq
  go_wp2_with fail
  refine (markByteS_calls _ _ _ _ _ 1 wc.heap.size wi.heap.size (by omega) (by omega) og (fun g hg => og.lt g hg)).mono ?_
  rintro e wj ⟨rfl, oj, hj, _, _⟩
  have hJ : Chg 0 0 w wj := hI.step hj (Or.inr (Or.inl (by omega)))
  have sj := hj.size
  have vs := vs.chg hj (by omega)
  have vj := oj.view (hi := wj.heap.size) (by rw [marks_length]; omega) (fun g hg => (oj.lt g hg).2)
  clear hj hI og oj
  go_wp2_with fail
  refine (heldByteS_calls _ 1 _ (by omega) vj).mono ?_
  rintro e wk ⟨rfl, hk⟩
  have hK := hJ.trans (hk.chg 0 0)
  have sk := (hk.chg 0 0).size
  have vs := vs.same hk
  clear hk hJ vj
  have hne : (((1 + (encP xs).length : Nat) : Int) != ((1 + (encP xs).length : Nat) : Int)) = false := by simp
  have v9 := v0.chg hK (by omega)
  go_wp2_with fail
  refine (toInt64S_calls _ hl v9).mono ?_
  rintro e wl ⟨g3, rfl, ol, hl'⟩
  have hL := hK.trans hl'
  have sl := hl'.size
  have vs := vs.chg hl' (by omega)
  have vl := ol.view (hi := wl.heap.size) (by omega) (fun g hg => (ol.lt g hg).2)
  clear hl' hK ol hne v9
  have hN := implEncodePointers_calls wl  hl vl
  go_wp2_with fail
  refine hN.mono ?_
  rintro e wm ⟨mv, rfl, om, hm⟩
  have hM := hL.trans hm
  have vs := vs.chg hm (by omega)
  have vm := om.view (hi := wm.heap.size) (by omega) (fun g hg => (om.lt g hg).2)
  obtain ⟨m0, m1, m2, rfl⟩ := row_slice om
  clear hm hL hN om vl
  go_wp2_with fail
  refine (eqByteS_calls _ vm vs).mono ?_
  rintro e wn ⟨rfl, hn⟩
  have hN' := hM.trans (hn.chg 0 0)
  clear hn hM vm vs
  go_wp2
  go_ret
  exact ⟨rfl, hN'.below (by omega)⟩

set_option maxRecDepth 100000 in
theorem lawEncodePointers_lifted (os : Os) (started : os.Started) (H : Type) (enc : TypeId × Value → H) :
    ReturnsInHanded {} Try.checked os 3 .any (Rows.fnExactEncodePointersSpec.pre6 enc Try.prog Try.f3 Rows.fnExactEncodePointersRow.domain false) (Rows.fnExactEncodePointersSpec.post enc Try.prog Try.f3 false true false false) := by
  refine returnsInHanded_of_change (C := Try.checked) own started (by kernel_rfl) Try.func3
    (ChangeSpec.witness6 (enc := enc) (C := Try.checked) false ⟨#[], #[.slice none 0 0], []⟩ 8 (by kernel_rfl) (by kernel_rfl) (by kernel_rfl) (by kernel_rfl)) ?_
  intro W base args ds gs before hval0 hW hcnd _
  have hval : ∀ (j : Nat) t v, Try.f3.params[j]? = some t → args[j]? = some v → Value.okWide Try.prog W .any base t v := hval0
  have hW' := hW
  obtain ⟨p, q, hA0, hV, rfl, hfz, hnd⟩ := hW
  have hA : DataW.TrodAll enc Try.prog W 0 (fun _ => true) true Try.f3.params.toList args.toList ds p := hA0
  rw [Try.params3] at hA hval
  obtain ⟨v0, vs0, d0, ds0, p0, q0, hargs, rfl, rfl, h0, r0⟩ := trodAll_cons hA
  obtain ⟨rfl, rfl, rfl⟩ := trodAll_nil r0
  obtain rfl : args = #[v0] := by cases args; simp_all
  obtain ⟨rfl, rfl⟩ := trodVars_none hV
  have k0 := h0
  have lt0 : ∀ x ∈ p0, x.block < W.heap.size := by obtain ⟨m, hm⟩ := k0; exact DataW.trod_lt m _ _ _ hm
  obtain ⟨ka, kl, kcp, rfl⟩ := okWide_slice Try.underlying22 (hval 0 22 v0 rfl rfl)
  obtain ⟨xs, wk⟩ : ∃ xs, View W 0 W.heap.size .i64 (.slice ka kl kcp) xs := by
    obtain ⟨fuel, hf⟩ := h0
    exact view_of_trod Try.underlying22 Try.underlying2 (by kernel_rfl) hf
  clear hA0 hval0
  refine (lawEncodePointers_walk W  wk).mono fun e W' ⟨he, bel⟩ => ?_
  subst he
  exact ⟨_, rfl, _, _, _, [], _, [], hW', trodAll_mk1 (shut_bool Try.underlying4 _), (trodAll_cons_mk (Below.trod laidOut (by kernel_rfl) (of_decide_eq_true (by kernel_rfl)) k0 bel lt0) trodAll_mk0), rfl, bel.frame _, fun h => by cases h⟩

theorem fnExactEncodePointers_holds : Rows.FnExactEncodePointersSaid :=
  OpenClaim.holds_of_wide 3 Try.f3 rfl rfl rfl rfl rfl rfl rfl ⟨rfl, rfl, rfl, rfl, rfl⟩ rfl rfl rfl rfl rfl (by kernel_rfl) Try.func3 (by kernel_rfl)
    (of_decide_eq_true (by kernel_rfl)) (by unfold Func.isWrapper; first | (rw [if_pos (by decide +kernel)]; kernel_rfl) | (rw [if_neg (by decide +kernel)]; exact ⟨rfl, rfl⟩))
    (fun os started H enc _ => lawEncodePointers_lifted os started H enc)
#print axioms fnExactEncodePointers_holds
end Go.Proofs.Ytblhinmbcjfnmaa

/- The law on CrcOn. -/
import Derived.Test.YtnpdninkiadodaaImplCrc
import Derived.Test.YtnpdninkiadodaaSpecCrcOn
import Derived.Test.YtnpdninkiadodaaEqB
import Derived.Test.YtnpdninkiadodaaToB
import Derived.Test.YtnpdninkiadodaaOpenB
namespace Go.Proofs.Ytnpdninkiadodaa
open Go.ChangeShapes Go.WideShapes Go.ChangeAt Go.RowKit

set_option maxHeartbeats 1000000 in
theorem lawCrcOn_walk (w : World) (c : Int) {hi : Nat} {a : Value} {xs : List Int} (hB : Byt xs) (h1 : View w 0 hi .u8 a xs) :
    Calls Try.prog 3 #[.int .i64 c, a] w fun e w' => e = .returned (.bool true) ∧ Below w.heap.size w w' := by
  have v0 := h1
  obtain ⟨ao, cap, rfl, hl0, _, _⟩ := h1
  by_cases hl : xs.length ≤ 1048576
  case neg =>
    clear v0
    go_enter Try.func3, Try.ntmps3
    go_wp2
    go_ret
    exact ⟨rfl, (Chg.refl 0 0 w).below (by omega)⟩
  go_enter Try.func3, Try.ntmps3
  go_wp2_with fail
  refine (toByteS_calls _ hl v0).mono ?_
  rintro e wa ⟨g, rfl, og, ha⟩
  have vg := og.view (hi := wa.heap.size) (by omega) (fun g hg => (og.lt g hg).2)
  have va := v0.chg ha (by omega)
  clear og
  go_wp2_with fail
  refine (specCrcOn_calls _ c hB vg).mono ?_
  rintro e wb ⟨rfl, rfl⟩
  have hB' := ha
  have vb := va
  clear vg va ha
  go_wp2_with fail
  refine (toByteS_calls _ hl vb).mono ?_
  rintro e wc ⟨g1, rfl, og, hc⟩
  have hC := hB'.trans hc
  have vx := og.view (hi := wc.heap.size) (by omega) (fun g hg => (og.lt g hg).2)
  have vc := vb.chg hc (by omega)
  clear hc hB' vb og
  go_wp2_with fail
  refine (implCrcOn_calls _ c hB vx (Nat.le_refl _)).mono ?_
  rintro e wd ⟨rfl, hd⟩
  have hD := hC.trans hd
  have vx := vx.chg hd (by omega)
  have vd := vc.chg hd (by omega)
  clear hd hC vc
  have hne : (crcOnV c xs != crcOnV c xs) = false := by simp
  go_wp2_with fail
  refine (toByteS_calls _ hl vd).mono ?_
  rintro e we ⟨g2, rfl, og, he⟩
  have hE := hD.trans he
  have vx := vx.chg he (by omega)
  have vy := og.view (hi := we.heap.size) (by omega) (fun g hg => (og.lt g hg).2)
  clear he hD vd og hne
  go_wp2_with fail
  refine (eqByteS_calls _ vx vy).mono ?_
  rintro e wf ⟨rfl, hf⟩
  have hF := hE.trans (hf.chg 0 0)
  clear hf hE vx vy
  go_wp2
  go_ret
  exact ⟨rfl, hF.below (by omega)⟩

set_option maxRecDepth 100000 in
theorem lawCrcOn_lifted (os : Os) (started : os.Started) (H : Type) (enc : TypeId × Value → H) :
    ReturnsInHanded {} Try.checked os 3 .any (Rows.fnExactCrcOnSpec.pre6 enc Try.prog Try.f3 Rows.fnExactCrcOnRow.domain false) (Rows.fnExactCrcOnSpec.post enc Try.prog Try.f3 false true false false) := by
  refine returnsInHanded_of_change (C := Try.checked) own started (by kernel_rfl) Try.func3
    (ChangeSpec.witness6 (enc := enc) (C := Try.checked) false ⟨#[], #[.int .i64 0, .slice none 0 0], []⟩ 8 (by kernel_rfl) (by kernel_rfl) (by kernel_rfl) (by kernel_rfl)) ?_
  intro W base args ds gs before hval0 hW hcnd _
  have hval : ∀ (j : Nat) t v, Try.f3.params[j]? = some t → args[j]? = some v → Value.okWide Try.prog W .any base t v := hval0
  have hW' := hW
  obtain ⟨p, q, hA0, hV, rfl, hfz, hnd⟩ := hW
  have hA : DataW.TrodAll enc Try.prog W 0 (fun _ => true) true Try.f3.params.toList args.toList ds p := hA0
  rw [Try.params3] at hA hval
  obtain ⟨v0, vs0, d0, ds0, p0, q0, hargs, rfl, rfl, h0, r0⟩ := trodAll_cons hA
  obtain ⟨v1, vs1, d1, ds1, p1, q1, rfl, rfl, rfl, h1, r1⟩ := trodAll_cons r0
  obtain ⟨rfl, rfl, rfl⟩ := trodAll_nil r1
  obtain rfl : args = #[v0, v1] := by cases args; simp_all
  obtain ⟨rfl, rfl⟩ := trodVars_none hV
  obtain ⟨a0, rfl, rfl, rfl, w0⟩ := open_int Try.underlying2 (hval 0 2 v0 rfl rfl) h0
  have k1 := h1
  have lt1 : ∀ x ∈ p1, x.block < W.heap.size := by obtain ⟨m, hm⟩ := k1; exact DataW.trod_lt m _ _ _ hm
  obtain ⟨ka, kl, kcp, rfl⟩ := okWide_slice Try.underlying22 (hval 1 22 v1 rfl rfl)
  obtain ⟨xs, wk, hwf⟩ : ∃ xs, View W 0 W.heap.size .u8 (.slice ka kl kcp) xs ∧ ∀ x ∈ xs, (Lit.int .u8 x).wf = true := by
    obtain ⟨fuel, hf⟩ := h1
    exact view_wf_of_trod Try.underlying22 Try.underlying5 (by kernel_rfl) hf
  clear hA0 hval0
  refine (lawCrcOn_walk W a0 (byt_of_wf hwf) wk).mono fun e W' ⟨he, bel⟩ => ?_
  subst he
  exact ⟨_, rfl, _, _, _, [], _, [], hW', trodAll_mk1 (shut_bool Try.underlying4 _), (trodAll_cons_mk (shut_int Try.underlying2 w0) (trodAll_cons_mk (Below.trod laidOut (by kernel_rfl) (of_decide_eq_true (by kernel_rfl)) k1 bel lt1) trodAll_mk0)), rfl, bel.frame _, fun h => by cases h⟩

theorem fnExactCrcOn_holds : Rows.FnExactCrcOnSaid :=
  OpenClaim.holds_of_wide 3 Try.f3 rfl rfl rfl rfl rfl rfl rfl ⟨rfl, rfl, rfl, rfl, rfl⟩ rfl rfl rfl rfl rfl (by kernel_rfl) Try.func3 (by kernel_rfl)
    (of_decide_eq_true (by kernel_rfl)) (by unfold Func.isWrapper; first | (rw [if_pos (by decide +kernel)]; kernel_rfl) | (rw [if_neg (by decide +kernel)]; exact ⟨rfl, rfl⟩))
    (fun os started H enc _ => lawCrcOn_lifted os started H enc)
#print axioms fnExactCrcOn_holds
end Go.Proofs.Ytnpdninkiadodaa

/- The law on PutNumber. -/
import Derived.Test.YtoipnmomfhppbaaPutN
import Derived.Test.YtoipnmomfhppbaaEqB
import Derived.Test.YtoipnmomfhppbaaMarkB
import Derived.Test.YtoipnmomfhppbaaOpenB
namespace Go.Proofs.Ytoipnmomfhppbaa
open Go.ChangeShapes Go.WideShapes Go.ChangeAt Go.RowKit

theorem putN_len (v n : Int) : (putN v n).length ≤ 8 := by
  unfold putN
  split
  · simp
  · split
    · simp
    · rw [digs_length]; omega

set_option maxHeartbeats 1000000 in
theorem lawPutNumber_walk (w : World) (v n : Int) (hv : v ≤ 9223372036854775807) :
    Calls Try.prog 3 #[.int .i64 v, .int .i64 n] w fun e w' => e = .returned (.bool true) ∧ Below w.heap.size w w' := by
  have hl := putN_len v n
  go_enter Try.func3, Try.ntmps3
  go_wp2_with fail
  refine (specPut_calls _ v n hv).mono ?_
  rintro e wa ⟨ra, rfl, oa, ha⟩
  obtain ⟨a0, l0, c0, rfl⟩ := row_slice oa
  have va := oa.view (hi := wa.heap.size) (by omega) (fun g hg => (oa.lt g hg).2)
  clear oa
  go_wp2_with fail
  refine (implPut_calls _ v n hv).mono ?_
  rintro e wb ⟨rb, rfl, ob, hb⟩
  obtain ⟨a1, l1, c1, rfl⟩ := row_slice ob
  have va := va.chg hb (by omega)
  have hB := ha.trans hb
  have vb := ob.view (hi := wb.heap.size) (by omega) (fun g hg => (ob.lt g hg).2)
  have sA := ha.size
  clear ha hb
  go_wp2_with fail
  refine (eqByteS_calls _ vb va).mono ?_
  rintro e wc ⟨rfl, hc⟩
  have hC := hB.trans (hc.chg 0 0)
  have va := va.same hc
  have ob := ob.chg (hc.chg 0 0) (by intro g _; omega)
  clear hc hB vb
  go_wp2_with fail
  refine (markByteS_calls _ _ _ _ _ 1 wa.heap.size wc.heap.size (by omega) (by omega) ob (fun g hg => ob.lt g hg)).mono ?_
  rintro e wd ⟨rfl, od, hd, _, _⟩
  have va := va.chg hd (by omega)
  have hD : Chg 0 0 w wd := hC.step hd (Or.inr (Or.inl (by omega)))
  have vd := od.view (hi := wd.heap.size) (by rw [marks_length]; omega) (fun g hg => (od.lt g hg).2)
  clear hd hC ob od
  go_wp2_with fail
  refine (heldByteS_calls _ 1 _ (by omega) vd).mono ?_
  rintro e we ⟨rfl, he⟩
  have va := va.same he
  have hE := hD.trans (he.chg 0 0)
  clear he hD vd
  have hne : (((1 + (putN v n).length : Nat) : Int) != ((1 + (putN v n).length : Nat) : Int)) = false := by simp
  go_wp2_with fail
  refine (implPut_calls _ v n hv).mono ?_
  rintro e wf ⟨rf, rfl, of', hf⟩
  obtain ⟨a2, l2, c2, rfl⟩ := row_slice of'
  have va := va.chg hf (by omega)
  have hF := hE.trans hf
  have vf := of'.view (hi := wf.heap.size) (by omega) (fun g hg => (of'.lt g hg).2)
  clear hf hE of' hne
  go_wp2_with fail
  refine (eqByteS_calls _ vf va).mono ?_
  rintro e wg ⟨rfl, hg⟩
  have hG := hF.trans (hg.chg 0 0)
  clear hg hF vf va
  go_wp2
  go_ret
  exact ⟨rfl, hG.below (by omega)⟩

theorem i64_le_of_wf {x : Int} (h : (Lit.int .i64 x).wf = true) : -9223372036854775808 ≤ x ∧ x ≤ 9223372036854775807 := by
  have h2 : IntKind.i64.min ≤ x ∧ x ≤ IntKind.i64.max := by simpa [Lit.wf] using h
  have e1 : IntKind.i64.min = -9223372036854775808 := by decide
  have e2 : IntKind.i64.max = 9223372036854775807 := by decide
  omega

set_option maxRecDepth 100000 in
theorem lawPutNumber_lifted (os : Os) (started : os.Started) (H : Type) (enc : TypeId × Value → H) :
    ReturnsInHanded {} Try.checked os 3 .any (Rows.fnExactPutNumberSpec.pre6 enc Try.prog Try.f3 Rows.fnExactPutNumberRow.domain false) (Rows.fnExactPutNumberSpec.post enc Try.prog Try.f3 false true false false) := by
  refine returnsInHanded_of_change (C := Try.checked) own started (by kernel_rfl) Try.func3
    (ChangeSpec.witness6 (enc := enc) (C := Try.checked) false ⟨#[], #[.int .i64 0, .int .i64 0], []⟩ 8 (by kernel_rfl) (by kernel_rfl) (by kernel_rfl) (by kernel_rfl)) ?_
  intro W base args ds gs before hval0 hW hcnd _
  have hval : ∀ (j : Nat) t v, Try.f3.params[j]? = some t → args[j]? = some v → Value.okWide Try.prog W .any base t v := hval0
  have hW' := hW
  obtain ⟨p, q, hA0, hV, rfl, hfz, hnd⟩ := hW
  have hA : DataW.TrodAll enc Try.prog W 0 (fun _ => true) true Try.f3.params.toList args.toList ds p := hA0
  rw [Try.params3] at hA hval
  obtain ⟨v0, vs0, d0, ds0, p0, q0, hargs, rfl, rfl, h0, r0⟩ := trodAll_cons hA
  obtain ⟨v1, vs1, d1, ds1, p1, q1, rfl, rfl, rfl, h1, r1⟩ := trodAll_cons r0
  obtain ⟨rfl, rfl, rfl⟩ := trodAll_nil r1
  obtain rfl : args = #[v0, v1] := by cases args; simp_all
  obtain ⟨rfl, rfl⟩ := trodVars_none hV
  obtain ⟨a0, rfl, rfl, rfl, w0⟩ := open_int Try.underlying2 (hval 0 2 v0 rfl rfl) h0
  obtain ⟨a1, rfl, rfl, rfl, w1⟩ := open_int Try.underlying2 (hval 1 2 v1 rfl rfl) h1
  clear hA0 hval0
  simp only [List.append_nil] at hW'
  refine (lawPutNumber_walk W a0 a1 (i64_le_of_wf w0).2).mono fun e W' ⟨he, bel⟩ => ?_
  subst he
  exact ⟨_, rfl, _, _, _, [], [], [], hW', trodAll_mk1 (shut_bool Try.underlying4 _), (trodAll_cons_mk (shut_int Try.underlying2 w0) (trodAll_cons_mk (shut_int Try.underlying2 w1) trodAll_mk0)), rfl, bel.frame _, fun h => by cases h⟩

theorem fnExactPutNumber_holds : Rows.FnExactPutNumberSaid :=
  OpenClaim.holds_of_wide 3 Try.f3 rfl rfl rfl rfl rfl rfl rfl ⟨rfl, rfl, rfl, rfl, rfl⟩ rfl rfl rfl rfl rfl (by kernel_rfl) Try.func3 (by kernel_rfl)
    (of_decide_eq_true (by kernel_rfl)) (by unfold Func.isWrapper; first | (rw [if_pos (by decide +kernel)]; kernel_rfl) | (rw [if_neg (by decide +kernel)]; exact ⟨rfl, rfl⟩))
    (fun os started H enc _ => lawPutNumber_lifted os started H enc)
#print axioms fnExactPutNumber_holds
end Go.Proofs.Ytoipnmomfhppbaa

/- The law on TxnLimit (made by tools/mklawbb.py). -/
import Derived.Test.YtdglijdepkmmjaaImplTxnLim
import Derived.Test.YtdglijdepkmmjaaOpenB
import Derived.ChangeMaps5
namespace Go.Proofs.Ytdglijdepkmmjaa
open Go.ChangeShapes Go.WideShapes Go.ChangeAt Go.RowKit Go.ChangeMaps

set_option maxRecDepth 20000 in
set_option maxHeartbeats 2000000 in
theorem lawTxnLimit_walk (w : World) (i1 : Int) :
    Calls Try.prog 3 #[.int .i64 i1] w fun e w' => e = .returned (.bool true) ∧ Below w.heap.size w w' := by
  have hN := specTxnLimit_calls w i1
  go_enter Try.func3, Try.ntmps3
  go_wp2_with fail
  refine hN.mono ?_
  rintro e wb ⟨rfl, hb0⟩
  have hb : Chg 0 0 w wb := by first | exact hb0 | (rw [hb0]; exact Chg.refl _ _ _)
  clear hN hb0
  have hN := implTxnLimit_calls wb i1
  go_wp2_with fail
  refine hN.mono ?_
  rintro e wd ⟨rfl, hd⟩
  have hd : Chg 0 0 w wd := hb.trans hd
  clear hN
  obtain ⟨bv, Hbv⟩ : ∃ b, Hid (b = limD i1) := ⟨_, rfl⟩
  rw [← Hbv.out]
  have hne : (bv != bv) = false := by simp
  go_wp2
  go_ret
  exact ⟨rfl, hd.below (by omega)⟩

set_option maxRecDepth 100000 in
theorem lawTxnLimit_lifted (os : Os) (started : os.Started) (H : Type) (enc : TypeId × Value → H) :
    ReturnsInHanded {} Try.checked os 3 .any (Rows.fnExactTxnLimitSpec.pre6 enc Try.prog Try.f3 Rows.fnExactTxnLimitRow.domain false) (Rows.fnExactTxnLimitSpec.post enc Try.prog Try.f3 false true false false) := by
  refine returnsInHanded_of_change (C := Try.checked) own started (by kernel_rfl) Try.func3
    (ChangeSpec.witness6 (enc := enc) (C := Try.checked) false ⟨#[], #[.int .i64 0], []⟩ 8 (by kernel_rfl) (by kernel_rfl) (by kernel_rfl) (by kernel_rfl)) ?_
  intro W base args ds gs before hval0 hW hcnd _
  have hval : ∀ (j : Nat) t v, Try.f3.params[j]? = some t → args[j]? = some v → Value.okWide Try.prog W .any base t v := hval0
  have hW' := hW
  obtain ⟨p, q, hA0, hV, rfl, hfz, hnd⟩ := hW
  have hA : DataW.TrodAll enc Try.prog W 0 (fun _ => true) true Try.f3.params.toList args.toList ds p := hA0
  rw [Try.params3] at hA hval
  obtain ⟨v1, vs1, d1, ds1, p1, q1, hargs, rfl, rfl, h1, r1⟩ := trodAll_cons hA
  obtain ⟨rfl, rfl, rfl⟩ := trodAll_nil r1
  obtain rfl : args = #[v1] := by cases args; simp_all
  obtain ⟨rfl, rfl⟩ := trodVars_none hV
  obtain ⟨b1, rfl, rfl, rfl, wb1⟩ := open_int Try.underlying2 (hval 0 2 v1 rfl rfl) h1
  clear hA0 hval0
  refine (lawTxnLimit_walk W b1).mono fun e W' ⟨he, bel⟩ => ?_
  subst he
  exact ⟨_, rfl, _, _, _, [], _, [], hW', trodAll_mk1 (shut_bool Try.underlying4 _), (trodAll_cons_mk (shut_int Try.underlying2 wb1) trodAll_mk0), rfl, bel.frame _, fun h => by cases h⟩

theorem fnExactTxnLimit_holds : Rows.FnExactTxnLimitSaid :=
  OpenClaim.holds_of_wide 3 Try.f3 rfl rfl rfl rfl rfl rfl rfl ⟨rfl, rfl, rfl, rfl, rfl⟩ rfl rfl rfl rfl rfl (by kernel_rfl) Try.func3 (by kernel_rfl)
    (of_decide_eq_true (by kernel_rfl)) (by unfold Func.isWrapper; first | (rw [if_pos (by decide +kernel)]; kernel_rfl) | (rw [if_neg (by decide +kernel)]; exact ⟨rfl, rfl⟩))
    (fun os started H enc _ => lawTxnLimit_lifted os started H enc)
#print axioms fnExactTxnLimit_holds
end Go.Proofs.Ytdglijdepkmmjaa

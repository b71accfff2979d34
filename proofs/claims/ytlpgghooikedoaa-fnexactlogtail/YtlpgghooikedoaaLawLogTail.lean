/- The law on LogTail. -/
import Derived.Test.YtlpgghooikedoaaLogTail
import Derived.Test.YtlpgghooikedoaaOpenLog
import Derived.Test.YtlpgghooikedoaaOwn
namespace Go.Proofs.Ytlpgghooikedoaa
open Go.ChangeShapes Go.WideShapes Go.ChangeAt Go.RowKit

set_option maxRecDepth 20000 in
set_option maxHeartbeats 1000000 in
theorem lawLogTail_walk (w : World) (sz st sq hd us : Int) :
    Calls Try.prog 3 #[logV sz st sq hd us] w fun e w' => e = .returned (.bool true) ∧ Below w.heap.size w w' := by
  have hA : Chg 0 0 w (w.alloc (logO 23 sz st sq hd us)) := Chg.alloc (Chg.refl 0 0 w) _
  obtain ⟨q0, q1, q2, q3, q4⟩ := five_cells (heap_new w (logO 23 sz st sq hd us))
  have hS := fun w => specLogTail_calls w sz st sq hd us
  have hI := fun w => implLogTail_calls w sz st sq hd us
  obtain ⟨ta, tb, tc, td, te, hT⟩ := tailV_log sz st sq hd us
  rw [hT] at hS hI
  clear hT
  go_enter Try.func3, Try.ntmps3
  go_wp2_with fail
  generalize w.alloc (logO 23 sz st sq hd us) = w0 at *
  refine (toLog_calls _ sz st sq hd us).mono ?_
  rintro e w1 ⟨rfl, h1⟩
  go_wp2_with fail
  refine (hS _).mono ?_
  rintro e w2 ⟨rfl, h2⟩
  have cB : Chg 0 0 w2 (w2.alloc (logO 24 ta tb tc td te)) := Chg.alloc (Chg.refl 0 0 w2) _
  have h2 := (h1.trans h2).trans cB
  have q0 := h2.cell q0 (by omega)
  have q1 := h2.cell q1 (by omega)
  have q2 := h2.cell q2 (by omega)
  have q3 := h2.cell q3 (by omega)
  have q4 := h2.cell q4 (by omega)
  have hA := hA.trans h2
  obtain ⟨r0, r1, r2, r3, r4⟩ := five_cells (heap_new w2 (logO 24 ta tb tc td te))
  clear h1 h2 cB
  go_wp2_with fail
  generalize w2.alloc (logO 24 ta tb tc td te) = w2' at *
  refine (toLog_calls _ sz st sq hd us).mono ?_
  rintro e w3 ⟨rfl, h3⟩
  have hA := hA.trans h3
  clear q0 q1 q2 q3 q4
  go_wp2_with fail
  refine (hI _).mono ?_
  rintro e w4 ⟨rfl, h4⟩
  have cB : Chg 0 0 w4 (w4.alloc (logO 24 ta tb tc td te)) := Chg.alloc (Chg.refl 0 0 w4) _
  have h5 := (h3.trans h4).trans cB
  have r0 := h5.cell r0 (by omega)
  have r1 := h5.cell r1 (by omega)
  have r2 := h5.cell r2 (by omega)
  have r3 := h5.cell r3 (by omega)
  have r4 := h5.cell r4 (by omega)
  have hA := (hA.trans h4).trans cB
  clear h3 h4 h5 cB
  go_wp2_with fail
  refine (eqLog_calls _ ta tb tc td te).mono ?_
  rintro e w6 ⟨rfl, h6⟩
  have hA := hA.trans h6
  clear h6 r0 r1 r2 r3 r4
  go_wp2
  go_ret
  exact ⟨rfl, hA.below (by omega)⟩

set_option maxRecDepth 100000 in
theorem lawLogTail_lifted (os : Os) (started : os.Started) (H : Type) (enc : TypeId × Value → H) :
    ReturnsInHanded {} Try.checked os 3 .any (Rows.fnExactLogTailSpec.pre6 enc Try.prog Try.f3 Rows.fnExactLogTailRow.domain false) (Rows.fnExactLogTailSpec.post enc Try.prog Try.f3 false true false false) := by
  refine returnsInHanded_of_change (C := Try.checked) own started (by kernel_rfl) Try.func3
    (ChangeSpec.witness6 (enc := enc) (C := Try.checked) false ⟨#[], #[.agg #[.int .i64 0, .int .i64 0, .int .i64 0, .int .i64 0, .int .i64 0]], []⟩ 8 (by kernel_rfl) (by kernel_rfl) (by kernel_rfl) (by kernel_rfl)) ?_
  intro W base args ds gs before hval0 hW hcnd _
  have hval : ∀ (j : Nat) t v, Try.f3.params[j]? = some t → args[j]? = some v → Value.okWide Try.prog W .any base t v := hval0
  have hW' := hW
  obtain ⟨p, q, hA0, hV, rfl, hfz, hnd⟩ := hW
  have hA : DataW.TrodAll enc Try.prog W 0 (fun _ => true) true Try.f3.params.toList args.toList ds p := hA0
  rw [Try.params3] at hA hval
  obtain ⟨v0, vs0, d0, ds0, p0, q0, hargs, rfl, rfl, h0, r0⟩ := trodAll_cons hA
  obtain ⟨rfl, rfl, rfl⟩ := trodAll_nil r0
  obtain rfl : args = #[v0] := by cases args; simp_all
  obtain ⟨rfl, rfl⟩ := trodVars_none hV
  have k0 := h0
  have lt0 : ∀ x ∈ p0, x.block < W.heap.size := by obtain ⟨m, hm⟩ := k0; exact DataW.trod_lt m _ _ _ hm
  obtain ⟨sz, st, sq, hd, us, rfl⟩ := log_of_trod (hval 0 23 v0 rfl rfl) h0
  clear hA0 hval0
  refine (lawLogTail_walk W sz st sq hd us).mono fun e W' ⟨he, bel⟩ => ?_
  subst he
  exact ⟨_, rfl, _, _, _, [], _, [], hW', trodAll_mk1 (shut_bool Try.underlying4 _), (trodAll_cons_mk (Below.trod laidOut (by kernel_rfl) (of_decide_eq_true (by kernel_rfl)) k0 bel lt0) trodAll_mk0), rfl, bel.frame _, fun h => by cases h⟩

theorem fnExactLogTail_holds : Rows.FnExactLogTailSaid :=
  OpenClaim.holds_of_wide 3 Try.f3 rfl rfl rfl rfl rfl rfl rfl ⟨rfl, rfl, rfl, rfl, rfl⟩ rfl rfl rfl rfl rfl (by kernel_rfl) Try.func3 (by kernel_rfl)
    (of_decide_eq_true (by kernel_rfl)) (by unfold Func.isWrapper; first | (rw [if_pos (by decide +kernel)]; kernel_rfl) | (rw [if_neg (by decide +kernel)]; exact ⟨rfl, rfl⟩))
    (fun os started H enc _ => lawLogTail_lifted os started H enc)
#print axioms fnExactLogTail_holds
end Go.Proofs.Ytlpgghooikedoaa

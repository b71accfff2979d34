/- The law on Count. -/
import Derived.Test.YtccmeggnkeenoaaImplCnt
import Derived.Test.YtccmeggnkeenoaaNodTo
import Derived.Test.YtccmeggnkeenoaaOpenNod
import Derived.ChangeMaps5
namespace Go.Proofs.Ytccmeggnkeenoaa
open Go.ChangeShapes Go.WideShapes Go.ChangeAt Go.RowKit Go.ChangeMaps

set_option maxRecDepth 20000 in
set_option maxHeartbeats 2000000 in
theorem lawCount_walk (w : World) {a : Value} {ts : List Nod} (hz : SizedN ts) (h1 : NView w 0 w.heap.size a ts) :
    Calls Try.prog 3 #[a] w fun e w' => e = .returned (.bool true) ∧ Below w.heap.size w w' := by
  have HT : Hid (NView w 0 w.heap.size a ts) := h1
  obtain ⟨ao, cap, rfl⟩ := h1.slice
  have hN := szNodeS_calls w ts 1048576 (by omega) hz h1
  clear h1
  go_enter Try.func3, Try.ntmps3
  go_wp2_with fail
  refine hN.mono ?_
  rintro e w1 ⟨rfl, h1⟩
  have HA1 : Hid (Chg 0 0 w w1) := h1
  have s1 := h1.size
  clear hN h1
  by_cases hl : cntN ts ≤ 1048576
  case neg =>
    rw [lft_neg hl]
    clear hl
    go_wp2
    go_ret
    exact ⟨rfl, HA1.out.below (by omega)⟩
  rw [lft_pos hl]
  have Hl : Hid (cntN ts ≤ 1048576) := hl
  have hp : ¬ ((1048576 - cntN ts : Nat) : Int) < 0 := by omega
  have hlen : ts.length ≤ 1048576 := Nat.le_trans (cntN_ge ts) hl
  clear hl
  generalize 1048576 - cntN ts = lf at *
  have hN := toNodeS_calls w1 Hl.out (HT.out.chg HA1.out (by omega))
  go_wp2_with fail
  refine hN.mono ?_
  rintro e w2 ⟨g, rfl, tv, h2⟩
  have HA2 : Hid (Chg 0 0 w w2) := HA1.out.trans h2
  have s2 := h2.size
  have hN2 := specCount_calls w2 (tv.view (by omega) (hi := w2.heap.size) (fun g hg => (tv.lt g hg).2))
  clear hN tv h2
  go_wp2_with fail
  refine hN2.mono ?_
  rintro e w3 ⟨rfl, h3⟩
  have HA3 : Hid (Chg 0 0 w w3) := HA2.out.trans h3
  have s3 := h3.size
  obtain ⟨bv, Hbv⟩ : ∃ b, Hid (b = (cntU ts).1) := ⟨_, rfl⟩
  obtain ⟨bw, Hbw⟩ : ∃ b, Hid (b = (cntU ts).2) := ⟨_, rfl⟩
  rw [← Hbv.out, ← Hbw.out]
  clear hN2 h3
  have CB : Chg 0 0 w3 (w3.alloc (.cells #[.int .i64 bv, .int .i64 bw] 25)) := Chg.alloc (Chg.refl 0 0 w3) _
  have hbx := heap_new w3 (.cells #[.int .i64 bv, .int .i64 bw] 25)
  have sB : (w3.alloc (.cells #[.int .i64 bv, .int .i64 bw] 25)).heap.size = w3.heap.size + 1 := by simp
  have HA3b : Hid (Chg 0 0 w (w3.alloc (.cells #[.int .i64 bv, .int .i64 bw] 25))) := HA3.out.trans CB
  have hN := toNodeS_calls (w3.alloc (.cells #[.int .i64 bv, .int .i64 bw] 25)) Hl.out (HT.out.chg HA3b.out (by omega))
  go_wp2_with fail
  refine hN.mono ?_
  rintro e w4 ⟨g4, rfl, tv, h4⟩
  have s4 := h4.size
  rw [sB] at tv s4
  have HA4 : Hid (Chg 0 0 w w4) := HA3b.out.trans h4
  have hbx4 := (h4.block _ (by omega) (by omega)).trans hbx
  have HTX : Hid (NView w4 (w3.heap.size + 1) w4.heap.size (.slice (some ⟨g4, 0, none⟩) ts.length ts.length) ts) := tv.view (by omega) (fun g hg => (tv.lt g hg).2)
  have hN2 := implCount_calls w4 hz HTX.out
  rw [← Hbv.out, ← Hbw.out] at hN2
  clear hN tv h4 CB hbx
  go_wp2_with fail
  refine hN2.mono ?_
  rintro e w6 ⟨rfl, h6⟩
  have s6 := h6.size
  have CC : Chg 0 0 w6 (w6.alloc (.cells #[.int .i64 bv, .int .i64 bw] 25)) := Chg.alloc (Chg.refl 0 0 w6) _
  have HA6 : Hid (Chg 0 0 w (w6.alloc (.cells #[.int .i64 bv, .int .i64 bw] 25))) := (HA4.out.trans h6).trans CC
  have HTX6 : Hid (NView (w6.alloc (.cells #[.int .i64 bv, .int .i64 bw] 25)) (w3.heap.size + 1) w4.heap.size (.slice (some ⟨g4, 0, none⟩) ts.length ts.length) ts) := (HTX.out.chg h6 (by omega)).chg CC (by omega)
  have hbx6 := (h6.block _ (by omega) (by omega)).trans hbx4
  have hbx6b := (CC.block _ (by omega) (by omega)).trans hbx6
  have hby6 := heap_new w6 (.cells #[.int .i64 bv, .int .i64 bw] 25)
  obtain ⟨x0, x1, _, _⟩ := duoU hbx6b
  obtain ⟨y0, y1, _, _⟩ := duoU hby6
  have sC : (w6.alloc (.cells #[.int .i64 bv, .int .i64 bw] 25)).heap.size = w6.heap.size + 1 := by simp
  have hN3 := eqUsage_calls (w6.alloc (.cells #[.int .i64 bv, .int .i64 bw] 25)) bv bw
  clear hN2 h6 hbx4 hbx6 hbx6b hby6 CC
  go_wp2_with fail
  refine hN3.mono ?_
  rintro e w6b ⟨rfl, h6b⟩
  have s6b := h6b.size
  rw [sC] at s6b
  have HA6b : Hid (Chg 0 0 w w6b) := HA6.out.trans h6b
  have HTX6b : Hid (NView w6b (w3.heap.size + 1) w4.heap.size (.slice (some ⟨g4, 0, none⟩) ts.length ts.length) ts) := HTX6.out.chg h6b (by omega)
  have hN := toNodeS_calls w6b Hl.out (HT.out.chg HA6b.out (by omega))
  clear hN3 h6b
  go_wp2_with fail
  refine hN.mono ?_
  rintro e w7 ⟨g7, rfl, zt, h7⟩
  have hN2 := eqNodeS_calls w7 (HTX6b.out.chg h7 (by omega)) (zt.view (by omega) (hi := w7.heap.size) (fun g hg => (zt.lt g hg).2))
  have HA7 : Hid (Chg 0 0 w w7) := HA6b.out.trans h7
  clear hN zt h7
  go_wp2_with fail
  refine hN2.mono ?_
  rintro e w8 ⟨rfl, h8⟩
  have HA8 : Hid (Chg 0 0 w w8) := HA7.out.trans h8
  clear h8 hN2
  go_wp2
  go_ret
  exact ⟨rfl, HA8.out.below (by omega)⟩

set_option maxRecDepth 100000 in
theorem lawCount_lifted (os : Os) (started : os.Started) (H : Type) (enc : TypeId × Value → H) :
    ReturnsInHanded {} Try.checked os 3 .any (Rows.fnExactCountSpec.pre6 enc Try.prog Try.f3 Rows.fnExactCountRow.domain false) (Rows.fnExactCountSpec.post enc Try.prog Try.f3 false true false false) := by
  refine returnsInHanded_of_change (C := Try.checked) own started (by kernel_rfl) Try.func3
    (ChangeSpec.witness6 (enc := enc) (C := Try.checked) false ⟨#[], #[.slice none 0 0], []⟩ 8 (by kernel_rfl) (by kernel_rfl) (by kernel_rfl) (by kernel_rfl)) ?_
  intro W base args ds gs before hval0 hW hcnd _
  have hval : ∀ (j : Nat) t v, Try.f3.params[j]? = some t → args[j]? = some v → Value.okWide Try.prog W .any base t v := hval0
  have hW' := hW
  obtain ⟨p, q, hA0, hV, rfl, hfz, hnd⟩ := hW
  have hA : DataW.TrodAll enc Try.prog W 0 (fun _ => true) true Try.f3.params.toList args.toList ds p := hA0
  rw [Try.params3] at hA hval
  obtain ⟨v0, vs0, d0, ds0, p0, q0, hargs, rfl, rfl, h0, r0⟩ := trodAll_cons hA
  obtain ⟨rfl, rfl, rfl⟩ := trodAll_nil r0
  obtain rfl : args = #[v0] := by cases args; simp_all
  obtain ⟨rfl, rfl⟩ := trodVars_none hV
  have k0 := h0
  have lt0 : ∀ x ∈ p0, x.block < W.heap.size := by obtain ⟨m, hm⟩ := k0; exact DataW.trod_lt m _ _ _ hm
  obtain ⟨ka, kl, kcp, rfl⟩ := okWide_slice Try.underlying22 (hval 0 22 v0 rfl rfl)
  obtain ⟨ts, hT, hz⟩ : ∃ ts, NView W 0 W.heap.size (.slice ka kl kcp) ts ∧ SizedN ts := by obtain ⟨m, hm⟩ := h0; exact nview_of_trod hm
  clear hA0 hval0
  refine (lawCount_walk W hz hT).mono fun e W' ⟨he, bel⟩ => ?_
  subst he
  exact ⟨_, rfl, _, _, _, [], _, [], hW', trodAll_mk1 (shut_bool Try.underlying4 _), (trodAll_cons_mk (Below.trod laidOut (by kernel_rfl) (of_decide_eq_true (by kernel_rfl)) k0 bel lt0) trodAll_mk0), rfl, bel.frame _, fun h => by cases h⟩

theorem fnExactCount_holds : Rows.FnExactCountSaid :=
  OpenClaim.holds_of_wide 3 Try.f3 rfl rfl rfl rfl rfl rfl rfl ⟨rfl, rfl, rfl, rfl, rfl⟩ rfl rfl rfl rfl rfl (by kernel_rfl) Try.func3 (by kernel_rfl)
    (of_decide_eq_true (by kernel_rfl)) (by unfold Func.isWrapper; first | (rw [if_pos (by decide +kernel)]; kernel_rfl) | (rw [if_neg (by decide +kernel)]; exact ⟨rfl, rfl⟩))
    (fun os started H enc _ => lawCount_lifted os started H enc)
#print axioms fnExactCount_holds
end Go.Proofs.Ytccmeggnkeenoaa

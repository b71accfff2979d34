/- The law on Revoked. -/
import Derived.Test.YtdddphgjiokjpaaRevoked
import Derived.Test.YtdddphgjiokjpaaOpenTxnL
import Derived.Deep.RegionWith
namespace Go.Proofs.Ytdddphgjiokjpaa
open Go.ChangeShapes Go.WideShapes Go.ChangeAt Go.RowKit

set_option maxRecDepth 20000 in
set_option maxHeartbeats 2000000 in
theorem lawRevoked_walk (w : World) {a : Value} {ts : List Tx} (i v : Int) (h1 : TSView w 0 w.heap.size a ts) :
    Calls Try.prog 3 #[a, .int .i64 i, .int .i64 v] w fun e w' => e = .returned (.bool true) ∧ Below w.heap.size w w' := by
  have HT : Hid (TSView w 0 w.heap.size a ts) := h1
  obtain ⟨ao, cap, rfl⟩ := h1.slice
  have hN := szTxnS_calls w ts 1048576 (by omega) h1
  clear h1
  go_enter Try.func3, Try.ntmps3
  go_wp2_with fail
  refine hN.mono ?_
  rintro e w1 ⟨rfl, h1⟩
  have HA1 : Hid (Chg 0 0 w w1) := h1
  have s1 := h1.size
  clear hN h1
  by_cases hl : cntTS ts ≤ 1048576
  case neg =>
    rw [lft_neg hl]
    clear hl
    go_wp2
    go_ret
    exact ⟨rfl, HA1.out.below (by omega)⟩
  rw [lft_pos hl]
  have Hl : Hid (cntTS ts ≤ 1048576) := hl
  have hp : ¬ ((1048576 - cntTS ts : Nat) : Int) < 0 := by omega
  clear hl
  generalize 1048576 - cntTS ts = lf at *
  have hN := toTxnS_calls w1 Hl.out (HT.out.chg HA1.out (by omega))
  go_wp2_with fail
  refine hN.mono ?_
  rintro e w2 ⟨xv, rfl, tv, h2⟩
  have HA2 : Hid (Chg 0 0 w w2) := HA1.out.trans h2
  have s2 := h2.size
  have hN2 := specRevoked_calls w2 i v tv
  obtain ⟨xo, xcap, rfl⟩ := tv.slice
  clear hN tv h2
  go_wp2_with fail
  refine hN2.mono ?_
  rintro e w3 ⟨rfl, rfl⟩
  obtain ⟨bv, Hbv⟩ : ∃ b, Hid (b = revB ts i v) := ⟨_, rfl⟩
  rw [← Hbv.out]
  clear hN2
  have hN := toTxnS_calls w3 Hl.out (HT.out.chg HA2.out (by omega))
  go_wp2_with fail
  refine hN.mono ?_
  rintro e w4 ⟨xv, rfl, tv, h4⟩
  have s4 := h4.size
  have HA4 : Hid (Chg 0 0 w w4) := HA2.out.trans h4
  have HTX : Hid (TSView w4 w3.heap.size w4.heap.size xv ts) := tv
  have hN2 := implRevoked_calls w4 i v (Nat.le_trans (cntTS_ge ts) Hl.out) tv
  rw [← Hbv.out] at hN2
  obtain ⟨yo, ycap, rfl⟩ := tv.slice
  clear hN tv h4
  go_wp2_with fail
  refine hN2.mono ?_
  rintro e w6 ⟨rfl, h6⟩
  have s6 := h6.size
  have HA6 : Hid (Chg 0 0 w w6) := HA4.out.trans h6
  have HTX6 : Hid (TSView w6 w3.heap.size w4.heap.size (.slice yo ts.length ycap) ts) := HTX.out.chg h6 (by omega)
  have hne : (bv != bv) = false := by simp
  have hN := toTxnS_calls w6 Hl.out (HT.out.chg HA6.out (by omega))
  clear hN2 h6
  go_wp2_with fail
  refine hN.mono ?_
  rintro e w7 ⟨zv, rfl, zt, h7⟩
  have hN2 := eqTxnS_calls w7 (HTX6.out.chg h7 (by omega)) zt
  have HA7 : Hid (Chg 0 0 w w7) := HA6.out.trans h7
  obtain ⟨zo, zcap, rfl⟩ := zt.slice
  clear hN zt h7
  go_wp2_with fail
  refine hN2.mono ?_
  rintro e w8 ⟨rfl, h8⟩
  have HA8 : Hid (Chg 0 0 w w8) := HA7.out.trans h8
  clear h8 hN2
  go_wp2
  go_ret
  exact ⟨rfl, HA8.out.below (by omega)⟩

set_option maxRecDepth 100000 in
theorem lawRevoked_lifted (os : Os) (started : os.Started) (H : Type) (enc : TypeId × Value → H) :
    ReturnsInHanded {} Try.checked os 3 .any (Rows.fnExactRevokedSpec.pre6 enc Try.prog Try.f3 Rows.fnExactRevokedRow.domain false) (Rows.fnExactRevokedSpec.post enc Try.prog Try.f3 false true false false) := by
  refine returnsInHanded_of_change (C := Try.checked) own started (by kernel_rfl) Try.func3
    (ChangeSpec.witness6 (enc := enc) (C := Try.checked) false ⟨#[], #[.slice none 0 0, .int .i64 0, .int .i64 0], []⟩ 8 (by kernel_rfl) (by kernel_rfl) (by kernel_rfl) (by kernel_rfl)) ?_
  intro W base args ds gs before hval0 hW hcnd _
  have hval : ∀ (j : Nat) t v, Try.f3.params[j]? = some t → args[j]? = some v → Value.okWide Try.prog W .any base t v := hval0
  have hW' := hW
  obtain ⟨p, q, hA0, hV, rfl, hfz, hnd⟩ := hW
  have hA : DataW.TrodAll enc Try.prog W 0 (fun _ => true) true Try.f3.params.toList args.toList ds p := hA0
  rw [Try.params3] at hA hval
  obtain ⟨v0, vs0, d0, ds0, p0, q0, hargs, rfl, rfl, h0, r0⟩ := trodAll_cons hA
  obtain ⟨v1, vs1, d1, ds1, p1, q1, rfl, rfl, rfl, h1, r1⟩ := trodAll_cons r0
  obtain ⟨v2, vs2, d2, ds2, p2, q2, rfl, rfl, rfl, h2, r2⟩ := trodAll_cons r1
  obtain ⟨rfl, rfl, rfl⟩ := trodAll_nil r2
  obtain rfl : args = #[v0, v1, v2] := by cases args; simp_all
  obtain ⟨rfl, rfl⟩ := trodVars_none hV
  have k0 := h0
  have lt0 : ∀ x ∈ p0, x.block < W.heap.size := by obtain ⟨m, hm⟩ := k0; exact DataW.trod_lt m _ _ _ hm
  obtain ⟨ka, kl, kcp, rfl⟩ := okWide_slice Try.underlying22 (hval 0 22 v0 rfl rfl)
  obtain ⟨ts, hT⟩ : ∃ ts, TSView W 0 W.heap.size (.slice ka kl kcp) ts := by obtain ⟨m, hm⟩ := h0; exact tsview_of_trod hm
  obtain ⟨b1, rfl, rfl, rfl, wb1⟩ := open_int Try.underlying2 (hval 1 2 v1 rfl rfl) h1
  obtain ⟨b2, rfl, rfl, rfl, wb2⟩ := open_int Try.underlying2 (hval 2 2 v2 rfl rfl) h2
  clear hA0 hval0
  refine (lawRevoked_walk W b1 b2 hT).mono fun e W' ⟨he, bel⟩ => ?_
  subst he
  exact ⟨_, rfl, _, _, _, [], _, [], hW', trodAll_mk1 (shut_bool Try.underlying4 _), (trodAll_cons_mk (Below.trod laidOut (by kernel_rfl) (of_decide_eq_true (by kernel_rfl)) k0 bel lt0) (trodAll_cons_mk (shut_int Try.underlying2 wb1) (trodAll_cons_mk (shut_int Try.underlying2 wb2) trodAll_mk0))), rfl, bel.frame _, fun h => by cases h⟩

theorem fnExactRevoked_holds : Rows.FnExactRevokedSaid :=
  OpenClaim.holds_of_wide 3 Try.f3 rfl rfl rfl rfl rfl rfl rfl ⟨rfl, rfl, rfl, rfl, rfl⟩ rfl rfl rfl rfl rfl (by kernel_rfl) Try.func3 (by kernel_rfl)
    (of_decide_eq_true (by kernel_rfl)) (by unfold Func.isWrapper; first | (rw [if_pos (by decide +kernel)]; kernel_rfl) | (rw [if_neg (by decide +kernel)]; exact ⟨rfl, rfl⟩))
    (fun os started H enc _ => lawRevoked_lifted os started H enc)
#print axioms fnExactRevoked_holds
end Go.Proofs.Ytdddphgjiokjpaa

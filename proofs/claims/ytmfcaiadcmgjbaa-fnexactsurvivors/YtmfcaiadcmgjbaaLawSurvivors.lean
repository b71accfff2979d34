/- The law on Survivors. -/
import Derived.Test.YtmfcaiadcmgjbaaSurvFin
import Derived.Test.YtmfcaiadcmgjbaaOpenTxnW
import Derived.Deep.RegionWith
namespace Go.Proofs.Ytmfcaiadcmgjbaa
open Go.ChangeShapes Go.WideShapes Go.ChangeAt Go.RowKit

set_option maxRecDepth 20000 in
set_option maxHeartbeats 4000000 in
theorem lawSurvivors_walk (w : World) {a : Value} {ts : List Tx} (h1 : TSView w 0 w.heap.size a ts) (hwf : WfT ts) :
    Calls Try.prog 3 #[a] w fun e w' => e = .returned (.bool true) ∧ Below w.heap.size w w' := by
  have HT : Hid (TSView w 0 w.heap.size a ts) := h1
  have HI : Hid (∀ (W : World) (lo hi : Nat) (b : Value), cntTS ts ≤ 1048576 → TSView W lo hi b ts → Calls Try.prog 7 #[b] W fun e w' => SurvAns W w' (survO ts) e) := fun W lo hi b hl hv => implSurv_calls W hl hv (fun i hi => (hwf i hi).1) (fun i hi => (hwf i hi).2)
  obtain ⟨ao, cap, rfl⟩ := h1.slice
  have hN := szTxnS_calls w ts 1048576 (by omega) h1
  clear h1 hwf
  go_enter Try.func3, Try.ntmps3
  go_wp2_with fail
  refine hN.mono ?_
  rintro e w1 ⟨rfl, h1⟩
  have HA1 : Hid (Chg 0 0 w w1) := h1
  have s1 := h1.size
  clear hN h1
  by_cases hl : cntTS ts ≤ 1048576
  case neg =>
    rw [lft_neg hl]
    clear hl
    go_wp2
    go_ret
    exact ⟨rfl, HA1.out.below (by omega)⟩
  rw [lft_pos hl]
  have Hl : Hid (cntTS ts ≤ 1048576) := hl
  have hp : ¬ ((1048576 - cntTS ts : Nat) : Int) < 0 := by omega
  clear hl
  generalize 1048576 - cntTS ts = lf at *
  have hN := toTxnS_own w1 Hl.out (HT.out.chg HA1.out (by omega))
  go_wp2_with fail
  refine hN.mono ?_
  rintro e w2 ⟨rfl, ⟨l2, h2', r2⟩, h2⟩
  have HA2 : Hid (Chg 0 0 w w2) := HA1.out.trans h2
  have s2 := h2.size
  have hN2 := specSurv_calls w2 Hl.out (r2.view Hl.out)
  clear hN r2 h2
  go_wp2_with fail
  refine hN2.mono ?_
  rintro e w3 ⟨sv, sn, rfl, hS⟩
  have s3 : w2.heap.size ≤ w3.heap.size := by obtain ⟨_, _, _, _, _, _, _, _, _, c⟩ := hS; exact c.size
  have HA3 : Hid (Chg 0 0 w w3) := by obtain ⟨_, _, _, _, _, _, _, _, _, c⟩ := hS; exact HA2.out.trans c
  have HS3 : Hid (PView w3 w2.heap.size w3.heap.size sv (survO ts)) := hS.view
  obtain ⟨sg, sm, sc, rfl⟩ := hS.slice
  clear hN2 hS hp
  have hN := toTxnS_own w3 Hl.out (HT.out.chg HA3.out (by omega))
  go_wp2_with fail
  refine hN.mono ?_
  rintro e w4 ⟨rfl, ⟨l4, h4', r4⟩, h4⟩
  have s4 := h4.size
  have HA4 : Hid (Chg 0 0 w w4) := HA3.out.trans h4
  have HR4 : Hid (TRowO w4 w3.heap.size ts.length ts.length ts l4 h4') := r4
  have HS4 : Hid (PView w4 w2.heap.size w3.heap.size (.slice (some ⟨sg, 0, none⟩) sm sc) (survO ts)) := HS3.out.chg h4 (by omega)
  have HH4 : Hid (∀ i, i < ts.length → h4' i ≤ w4.heap.size) := by obtain ⟨_, _, _, q, _⟩ := r4; exact fun i hi => (q i hi).2
  have HTX : Hid (TSView w4 w3.heap.size w4.heap.size (.slice (some ⟨w3.heap.size, 0, none⟩) ts.length ts.length) ts) := r4.view Hl.out
  have hgl : w3.heap.size < w4.heap.size := by obtain ⟨_, hr, _⟩ := r4; exact (World.ownsRow.lt hr _ rfl).2
  have hN2 := HI.out w4 _ _ _ Hl.out HTX.out
  clear hN r4 h4 HS3
  go_wp2_with fail
  refine hN2.mono ?_
  rintro e w5 ⟨gv, es, rfl, hO, hE, hEl, h5⟩
  have s5 := h5.size
  have HA5 : Hid (Chg 0 0 w w5) := HA4.out.trans h5
  have HR5 : Hid (TRowO w5 w3.heap.size ts.length ts.length ts l4 h4') := HR4.out.chg h5
  have HS5 : Hid (PView w5 w2.heap.size w3.heap.size (.slice (some ⟨sg, 0, none⟩) sm sc) (survO ts)) := HS4.out.chg h5 (by omega)
  have HTX5 : Hid (TSView w5 w3.heap.size w4.heap.size (.slice (some ⟨w3.heap.size, 0, none⟩) ts.length ts.length) ts) := HTX.out.chg h5 (by omega)
  have HG5 : Hid (PView w5 w4.heap.size w5.heap.size gv (survO ts)) := by have := hO.view; rw [psH, hE] at this; exact this
  have HO5 : Hid (OwnHs w5 w4.heap.size gv es) := hO
  have HPs : Hid (psH es = survO ts) := hE
  have hcnt : cnt (survO ts) ≤ 30000000000 := surv_cnt Hl.out (by rw [← hE]; simpa using hEl)
  obtain ⟨ga, gn, gc, rfl⟩ := hO.slice
  clear hN2 hO hE h5 HR4 HS4 HTX
  have hN := eqHomeS_calls w5 HG5.out HS5.out
  go_wp2_with fail
  refine hN.mono ?_
  rintro e w6 ⟨rfl, h6⟩
  have s6 := h6.size
  have HA6 : Hid (Chg 0 0 w w6) := HA5.out.trans h6
  have HR6 : Hid (TRowO w6 w3.heap.size ts.length ts.length ts l4 h4') := HR5.out.chg h6
  have HS6 : Hid (PView w6 w2.heap.size w3.heap.size (.slice (some ⟨sg, 0, none⟩) sm sc) (survO ts)) := HS5.out.chg h6 (by omega)
  have HTX6 : Hid (TSView w6 w3.heap.size w4.heap.size (.slice (some ⟨w3.heap.size, 0, none⟩) ts.length ts.length) ts) := HTX5.out.chg h6 (by omega)
  have HG6 : Hid (PView w6 w4.heap.size w5.heap.size (.slice ga gn gc) (survO ts)) := HG5.out.chg h6 (by omega)
  have HC56 : Hid (Chg 0 0 w5 w6) := h6
  clear hN h6 HR5 HS5 HTX5 HG5
  have hN := toTxnS_calls w6 Hl.out (HT.out.chg HA6.out (by omega))
  go_wp2_with fail
  refine hN.mono ?_
  rintro e w7 ⟨zv, rfl, zt, h7⟩
  have s7 := h7.size
  have hN2 := eqTxnS_calls w7 (HTX6.out.chg h7 (by omega)) zt
  have HA7 : Hid (Chg 0 0 w w7) := HA6.out.trans h7
  have HC57 : Hid (Chg 0 0 w5 w7) := HC56.out.trans h7
  have HC67 : Hid (Chg 0 0 w6 w7) := h7
  obtain ⟨zo, zcap, rfl⟩ := zt.slice
  clear hN zt h7 HTX6 HC56
  go_wp2_with fail
  refine hN2.mono ?_
  rintro e w8 ⟨rfl, h8⟩
  have s8 := h8.size
  have HA8 : Hid (Chg 0 0 w w8) := HA7.out.trans h8
  have HC58 : Hid (Chg 0 0 w5 w8) := HC57.out.trans h8
  have HC68 : Hid (Chg 0 0 w6 w8) := HC67.out.trans h8
  have hN := markTxnS_some w8 ts 1 w3.heap.size w4.heap.size l4 h4' (by have := Hl.out; omega) (HR6.out.chg HC68.out) HH4.out hgl
  clear h8 hN2 HC57 HC67
  go_wp2_with fail
  refine hN.mono ?_
  rintro e w9 ⟨rfl, h9⟩
  have s9 := h9.size
  have HA9 : Hid (Chg 0 0 w w9) := HA8.out.step h9 (by omega)
  have HS9 : Hid (PView w9 w2.heap.size w3.heap.size (.slice (some ⟨sg, 0, none⟩) sm sc) (survO ts)) := (HS6.out.chg HC68.out (by omega)).chg h9 (by omega)
  have HG9 : Hid (PView w9 w4.heap.size w5.heap.size (.slice ga gn gc) (survO ts)) := (HG6.out.chg HC68.out (by omega)).chg h9 (by omega)
  have HO9 : Hid (OwnHs w9 w4.heap.size (.slice ga gn gc) es) := (HO5.out.chg HC58.out (by omega)).chg h9 (by omega)
  have hGB : Hid ((∀ g, (Value.slice ga gn gc).ownBlock = some g → w4.heap.size ≤ g ∧ g < w5.heap.size) ∧ ∀ i g, i < (psH es).length → (es.getD i (0, .slice none 0 0, [])).2.1.ownBlock = some g → w4.heap.size ≤ g ∧ g < w5.heap.size) :=
    ⟨fun g hg => HO5.out.px.lt g hg, fun i g hi hg => (HO5.out.px.data i hi).lt g hg⟩
  have hkk : ¬ (((1 + cntTS ts : Nat) : Int) < 0) := by omega
  have hN2 := eqHomeS_calls w9 HG9.out HS9.out
  clear hN h9 HR6 HS6 HG6 HO5 HC58 HC68
  generalize 1 + cntTS ts = kk at *
  go_wp2_with fail
  refine hN2.mono ?_
  rintro e w10 ⟨rfl, h10⟩
  have s10 := h10.size
  have HA10 : Hid (Chg 0 0 w w10) := HA9.out.trans h10
  have HS10 : Hid (PView w10 w2.heap.size w3.heap.size (.slice (some ⟨sg, 0, none⟩) sm sc) (survO ts)) := HS9.out.chg h10 (by omega)
  have hpx := (HO9.out.chg h10 (by omega)).px
  have hN := markHomeS_calls w10 w4.heap.size 44 5 (by decide) (.slice ga gn gc) (psH es) 1 w4.heap.size w5.heap.size (by simp [psH]; omega) (by rw [HPs.out]; omega) _ _ hpx hGB.out.1 hGB.out.2
  rw [HPs.out] at hN
  clear hN2 hkk h10 HG9 HS9 HO9 hpx
  go_wp2_with fail
  refine hN.mono ?_
  rintro e w11 ⟨rfl, ⟨cells', hx⟩, h11, _⟩
  have s11 := h11.size
  have HA11 : Hid (Chg 0 0 w w11) := HA10.out.step h11 (by omega)
  have HS11 : Hid (PView w11 w2.heap.size w3.heap.size (.slice (some ⟨sg, 0, none⟩) sm sc) (survO ts)) := HS10.out.chg h11 (by omega)
  have HM11 : Hid (PView w11 w4.heap.size w11.heap.size (.slice ga gn gc) (mkTo 1 (survO ts) (survO ts).length)) := hx.view (by rw [mkTo_length]; have := cnt_ge (survO ts); omega) (fun i hi => (hx.data i hi).len) (fun g hg => (hx.lt g hg).2) (fun i g hi hg => ((hx.data i hi).lt g hg).2)
  have hN2 := heldHomeS_calls w11 (survO ts) 1 (by omega) HM11.out
  clear hN hx h11 HS10
  generalize hcc : 1 + cnt (survO ts) = cc at *
  clear hcc hcnt
  have hc1 : ¬ ((cc : Int) < 0) := by omega
  have hc2 : ((cc : Int) != (cc : Int)) = false := by simp
  go_wp2_with fail
  refine hN2.mono ?_
  rintro e w12 ⟨rfl, h12'⟩
  have h12 := h12'.chg 0 0
  have s12 := h12.size
  have HA12 : Hid (Chg 0 0 w w12) := HA11.out.trans h12
  have HS12 : Hid (PView w12 w2.heap.size w3.heap.size (.slice (some ⟨sg, 0, none⟩) sm sc) (survO ts)) := HS11.out.chg h12 (by omega)
  have hN := toTxnS_calls w12 Hl.out (HT.out.chg HA12.out (by omega))
  clear hN2 h12 h12' HM11 HS11
  go_wp2_with fail
  refine hN.mono ?_
  rintro e w13 ⟨yv, rfl, yt, h13⟩
  have s13 := h13.size
  have HA13 : Hid (Chg 0 0 w w13) := HA12.out.trans h13
  have HS13 : Hid (PView w13 w2.heap.size w3.heap.size (.slice (some ⟨sg, 0, none⟩) sm sc) (survO ts)) := HS12.out.chg h13 (by omega)
  have hN2 := HI.out w13 _ _ _ Hl.out yt
  obtain ⟨yo, ycap, rfl⟩ := yt.slice
  clear hN yt h13 HS12 hc1 hc2
  go_wp2_with fail
  refine hN2.mono ?_
  rintro e w14 ⟨hv, es2, rfl, hO, hE, _, h14⟩
  have HA14 : Hid (Chg 0 0 w w14) := HA13.out.trans h14
  have HG14 : Hid (PView w14 w13.heap.size w14.heap.size hv (survO ts)) := by have := hO.view; rw [psH, hE] at this; exact this
  have hN := eqHomeS_calls w14 HG14.out (HS13.out.chg h14 (by omega))
  obtain ⟨ha, hn, hc, rfl⟩ := hO.slice
  clear hN2 hO hE h14 HS13 HG14
  go_wp2_with fail
  refine hN.mono ?_
  rintro e w15 ⟨rfl, h15⟩
  have HA15 : Hid (Chg 0 0 w w15) := HA14.out.trans h15
  clear hN h15
  go_wp2
  go_ret
  exact ⟨rfl, HA15.out.below (by omega)⟩

set_option maxRecDepth 100000 in
theorem lawSurvivors_lifted (os : Os) (started : os.Started) (H : Type) (enc : TypeId × Value → H) :
    ReturnsInHanded {} Try.checked os 3 .any (Rows.fnExactSurvivorsSpec.pre6 enc Try.prog Try.f3 Rows.fnExactSurvivorsRow.domain false) (Rows.fnExactSurvivorsSpec.post enc Try.prog Try.f3 false true false false) := by
  refine returnsInHanded_of_change (C := Try.checked) own started (by kernel_rfl) Try.func3
    (ChangeSpec.witness6 (enc := enc) (C := Try.checked) false ⟨#[], #[.slice none 0 0], []⟩ 8 (by kernel_rfl) (by kernel_rfl) (by kernel_rfl) (by kernel_rfl)) ?_
  intro W base args ds gs before hval0 hW hcnd _
  have hval : ∀ (j : Nat) t v, Try.f3.params[j]? = some t → args[j]? = some v → Value.okWide Try.prog W .any base t v := hval0
  have hW' := hW
  obtain ⟨p, q, hA0, hV, rfl, hfz, hnd⟩ := hW
  have hA : DataW.TrodAll enc Try.prog W 0 (fun _ => true) true Try.f3.params.toList args.toList ds p := hA0
  rw [Try.params3] at hA hval
  obtain ⟨v0, vs0, d0, ds0, p0, q0, hargs, rfl, rfl, h0, r0⟩ := trodAll_cons hA
  obtain ⟨rfl, rfl, rfl⟩ := trodAll_nil r0
  obtain rfl : args = #[v0] := by cases args; simp_all
  obtain ⟨rfl, rfl⟩ := trodVars_none hV
  have k0 := h0
  have lt0 : ∀ x ∈ p0, x.block < W.heap.size := by obtain ⟨m, hm⟩ := k0; exact DataW.trod_lt m _ _ _ hm
  obtain ⟨ka, kl, kcp, rfl⟩ := okWide_slice Try.underlying22 (hval 0 22 v0 rfl rfl)
  obtain ⟨ts, hT, hw⟩ : ∃ ts, TSView W 0 W.heap.size (.slice ka kl kcp) ts ∧ WfT ts := by obtain ⟨m, hm⟩ := h0; exact tsviewW_of_trod hm
  clear hA0 hval0
  refine (lawSurvivors_walk W hT hw).mono fun e W' ⟨he, bel⟩ => ?_
  subst he
  exact ⟨_, rfl, _, _, _, [], _, [], hW', trodAll_mk1 (shut_bool Try.underlying4 _), (trodAll_cons_mk (Below.trod laidOut (by kernel_rfl) (of_decide_eq_true (by kernel_rfl)) k0 bel lt0) trodAll_mk0), rfl, bel.frame _, fun h => by cases h⟩

theorem fnExactSurvivors_holds : Rows.FnExactSurvivorsSaid :=
  OpenClaim.holds_of_wide 3 Try.f3 rfl rfl rfl rfl rfl rfl rfl ⟨rfl, rfl, rfl, rfl, rfl⟩ rfl rfl rfl rfl rfl (by kernel_rfl) Try.func3 (by kernel_rfl)
    (of_decide_eq_true (by kernel_rfl)) (by unfold Func.isWrapper; first | (rw [if_pos (by decide +kernel)]; kernel_rfl) | (rw [if_neg (by decide +kernel)]; exact ⟨rfl, rfl⟩))
    (fun os started H enc _ => lawSurvivors_lifted os started H enc)
#print axioms fnExactSurvivors_holds
end Go.Proofs.Ytmfcaiadcmgjbaa

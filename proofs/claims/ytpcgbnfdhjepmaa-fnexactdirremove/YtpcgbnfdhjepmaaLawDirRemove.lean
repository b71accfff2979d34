/- The law on DirRemove (made by tools/mklawe.py). -/
import Derived.Test.YtpcgbnfdhjepmaaImplRem
import Derived.Test.YtpcgbnfdhjepmaaEntMark
import Derived.Test.YtpcgbnfdhjepmaaOpenEnt
namespace Go.Proofs.Ytpcgbnfdhjepmaa
open Go.ChangeShapes Go.WideShapes Go.ChangeAt Go.RowKit

set_option maxRecDepth 20000 in
set_option maxHeartbeats 2000000 in
theorem lawDirRemove_walk (w : World) {a : Value} {ts : List Ent} (i1 : Int) (hz : Sized ts) (h1 : EView w 0 w.heap.size a ts) :
    Calls Try.prog 3 #[a, .int .i64 i1] w fun e w' => e = .returned (.bool true) ∧ Below w.heap.size w w' := by
  have HT : Hid (EView w 0 w.heap.size a ts) := h1
  obtain ⟨ao, cap, rfl⟩ := h1.slice
  have hN := szEntryS_calls w ts 1048576 (by omega) hz h1
  clear h1
  go_enter Try.func3, Try.ntmps3
  go_wp2_with fail
  refine hN.mono ?_
  rintro e w1 ⟨rfl, h1⟩
  have HA1 : Hid (Chg 0 0 w w1) := h1
  have s1 := h1.size
  clear hN h1
  by_cases hl : cntE ts ≤ 1048576
  case neg =>
    rw [lft_neg hl]
    clear hl
    go_wp2
    go_ret
    exact ⟨rfl, HA1.out.below (by omega)⟩
  rw [lft_pos hl]
  have Hl : Hid (cntE ts ≤ 1048576) := hl
  have hp : ¬ ((1048576 - cntE ts : Nat) : Int) < 0 := by omega
  have hlen : ts.length ≤ 1048576 := Nat.le_trans (cntE_ge ts) hl
  have hol : (remD ts i1).length ≤ 1048576 := Nat.le_trans (remTo_len ts i1 ts.length) hlen
  clear hl
  generalize 1048576 - cntE ts = lf at *
  have hN := toEntryS_calls w1 Hl.out (HT.out.chg HA1.out (by omega))
  go_wp2_with fail
  refine hN.mono ?_
  rintro e wa ⟨ga, rfl, tv, ha⟩
  have HAa : Hid (Chg 0 0 w wa) := HA1.out.trans ha
  have sa := ha.size
  have hN2 := specDirRemove_calls wa i1 hlen (tv.view (by omega) (hi := wa.heap.size) (fun g hg => (tv.lt g hg).2))
  clear hN tv ha
  go_wp2_with fail
  refine hN2.mono ?_
  rintro e wb ⟨sv, rfl, ov, hb⟩
  have HAb : Hid (Chg 0 0 w wb) := HAa.out.trans hb
  have sb := hb.size
  have VS : Hid (EView wb wa.heap.size wb.heap.size sv (remD ts i1)) := ov.view (by omega) (fun g hg => (ov.lt g hg).2)
  obtain ⟨s0, s1', rfl⟩ := VS.out.slice
  clear hN2 ov hb
  have hN := toEntryS_calls wb Hl.out (HT.out.chg HAb.out (by omega))
  go_wp2_with fail
  refine hN.mono ?_
  rintro e wc ⟨g1, rfl, ox, hc⟩
  have HAc : Hid (Chg 0 0 w wc) := HAb.out.trans hc
  have sc := hc.size
  have VSc := VS.out.chg hc (by omega)
  have hgx := ox.lt g1 rfl
  have hN2 := implDirRemove_calls wc i1 hlen (ox.view (by omega) (hi := wc.heap.size) (fun g hg => (ox.lt g hg).2))
  clear hN VS
  go_wp2_with fail
  refine hN2.mono ?_
  rintro e wd ⟨gv, rfl, og, hd⟩
  have HAd : Hid (Chg 0 0 w wd) := HAc.out.trans hd
  have sd := hd.size
  have OX : Hid (OwnE wd wb.heap.size 33 (.slice (some ⟨g1, 0, none⟩) ts.length ts.length) ts) := ox.chg hd (by intro g _; omega)
  have VSd := VSc.chg hd (by omega)
  have VQ := og.view (by omega) (hi := wd.heap.size) (fun g hg => (og.lt g hg).2)
  obtain ⟨t0, t1, rfl⟩ := VQ.slice
  have hN := eqEntryS_calls wd VQ VSd
  clear hN2 hc hd ox VSc VQ
  go_wp2_with fail
  refine hN.mono ?_
  rintro e we ⟨rfl, he⟩
  have HAe : Hid (Chg 0 0 w we) := HAd.out.trans he
  have se := he.size
  have OX := OX.out.chg he (by intro g _; omega)
  have og := og.chg he (by intro g _; omega)
  have VS := VSd.chg he (by omega)
  have hN2 := toEntryS_calls we Hl.out (HT.out.chg HAe.out (by omega))
  clear hN he VSd
  go_wp2_with fail
  refine hN2.mono ?_
  rintro e wf ⟨g2, rfl, oz, hf⟩
  have HAf : Hid (Chg 0 0 w wf) := HAe.out.trans hf
  have sf := hf.size
  have OX := OX.chg hf (by intro g _; omega)
  have og := og.chg hf (by intro g _; omega)
  have VS := VS.chg hf (by omega)
  have hN := eqEntryS_calls wf (OX.view (by omega) (hi := wf.heap.size) (fun g hg => (OX.lt g hg).2)) (oz.view (by omega) (hi := wf.heap.size) (fun g hg => (oz.lt g hg).2))
  clear hN2 hf oz
  go_wp2_with fail
  refine hN.mono ?_
  rintro e wg ⟨rfl, hg⟩
  have HAg : Hid (Chg 0 0 w wg) := HAf.out.trans hg
  have sg := hg.size
  have OX := OX.chg hg (by intro g _; omega)
  have og := og.chg hg (by intro g _; omega)
  have VS := VS.chg hg (by omega)
  obtain ⟨M, HM⟩ : ∃ M : Nat, Hid (1 + 2 * ts.length = M) := ⟨_, rfl⟩
  have hMb : M ≤ 10000000 := by have := HM.out; omega
  have hN2 := markEntryS_calls wg _ _ _ _ 1 wb.heap.size wc.heap.size (by omega) (by omega) (by omega) OX (fun g hg => by cases hg; exact ⟨hgx.1, hgx.2⟩)
  rw [HM.out] at hN2
  clear hN hg OX
  go_wp2_with fail
  refine hN2.mono ?_
  rintro e wh ⟨rfl, _, hh⟩
  have HAh : Hid (Chg 0 0 w wh) := HAg.out.step hh (Or.inr (Or.inl (by omega)))
  have sh := hh.size
  have og := og.chg hh (fun g hg => by have := (og.lt g hg).1; omega)
  have VS := VS.chg hh (by omega)
  have VQ := og.view (by omega) (hi := wh.heap.size) (fun g hg => (og.lt g hg).2)
  have hk0 : ¬ ((M : Int) < 0) := by omega
  have hN := eqEntryS_calls wh VQ VS
  clear hN2 hh VQ
  go_wp2_with fail
  refine hN.mono ?_
  rintro e wi ⟨rfl, hi'⟩
  have HAi : Hid (Chg 0 0 w wi) := HAh.out.trans hi'
  have si := hi'.size
  have og := og.chg hi' (by intro g _; omega)
  have VS := VS.chg hi' (by omega)
  obtain ⟨R, HR⟩ : ∃ M : Nat, Hid (1 + 2 * (remD ts i1).length = M) := ⟨_, rfl⟩
  have hRb : R ≤ 10000000 := by have := HR.out; omega
  have hN2 := markEntryS_calls wi _ _ _ _ 1 wc.heap.size wi.heap.size (by omega) (by omega) (by omega) og (fun g hg => og.lt g hg)
  rw [HR.out] at hN2
  clear hN hi'
  go_wp2_with fail
  refine hN2.mono ?_
  rintro e wj ⟨rfl, oj, hj⟩
  have HAj : Hid (Chg 0 0 w wj) := HAi.out.step hj (Or.inr (Or.inl (by omega)))
  have sj := hj.size
  have VS := VS.chg hj (by omega)
  have VJ := oj.view (by rw [mkE_len]; omega) (hi := wj.heap.size) (fun g hg => (oj.lt g hg).2)
  have hN := heldEntryS_calls wj 1 _ hol (by omega) (by omega) VJ
  rw [HR.out] at hN
  clear hN2 hj og oj VJ
  go_wp2_with fail
  refine hN.mono ?_
  rintro e wk ⟨rfl, hk⟩
  have HAk : Hid (Chg 0 0 w wk) := HAj.out.trans hk
  have sk := hk.size
  have VS := VS.chg hk (by omega)
  have hne : ((R : Int) != (R : Int)) = false := by simp
  have hr0 : ¬ ((R : Int) < 0) := by omega
  have hN2 := toEntryS_calls wk Hl.out (HT.out.chg HAk.out (by omega))
  clear hN hk
  go_wp2_with fail
  refine hN2.mono ?_
  rintro e wl ⟨g3, rfl, ol, hl'⟩
  have HAl : Hid (Chg 0 0 w wl) := HAk.out.trans hl'
  have sl := hl'.size
  have VS := VS.chg hl' (by omega)
  have hN := implDirRemove_calls wl i1 hlen (ol.view (by omega) (hi := wl.heap.size) (fun g hg => (ol.lt g hg).2))
  clear hN2 hl' ol hne
  go_wp2_with fail
  refine hN.mono ?_
  rintro e wm ⟨mv, rfl, om, hm⟩
  have HAm : Hid (Chg 0 0 w wm) := HAl.out.trans hm
  have VS := VS.chg hm (by omega)
  have VM := om.view (by omega) (hi := wm.heap.size) (fun g hg => (om.lt g hg).2)
  obtain ⟨m0, m1, rfl⟩ := VM.slice
  have hN2 := eqEntryS_calls wm VM VS
  clear hN hm om VM VS
  go_wp2_with fail
  refine hN2.mono ?_
  rintro e wn ⟨rfl, hn⟩
  have HAn : Hid (Chg 0 0 w wn) := HAm.out.trans hn
  clear hn hN2
  go_wp2
  go_ret
  exact ⟨rfl, HAn.out.below (by omega)⟩

set_option maxRecDepth 100000 in
theorem lawDirRemove_lifted (os : Os) (started : os.Started) (H : Type) (enc : TypeId × Value → H) :
    ReturnsInHanded {} Try.checked os 3 .any (Rows.fnExactDirRemoveSpec.pre6 enc Try.prog Try.f3 Rows.fnExactDirRemoveRow.domain false) (Rows.fnExactDirRemoveSpec.post enc Try.prog Try.f3 false true false false) := by
  refine returnsInHanded_of_change (C := Try.checked) own started (by kernel_rfl) Try.func3
    (ChangeSpec.witness6 (enc := enc) (C := Try.checked) false ⟨#[], #[.slice none 0 0, .int .i64 0], []⟩ 8 (by kernel_rfl) (by kernel_rfl) (by kernel_rfl) (by kernel_rfl)) ?_
  intro W base args ds gs before hval0 hW hcnd _
  have hval : ∀ (j : Nat) t v, Try.f3.params[j]? = some t → args[j]? = some v → Value.okWide Try.prog W .any base t v := hval0
  have hW' := hW
  obtain ⟨p, q, hA0, hV, rfl, hfz, hnd⟩ := hW
  have hA : DataW.TrodAll enc Try.prog W 0 (fun _ => true) true Try.f3.params.toList args.toList ds p := hA0
  rw [Try.params3] at hA hval
  obtain ⟨v0, vs0, d0, ds0, p0, q0, hargs, rfl, rfl, h0, r0⟩ := trodAll_cons hA
  obtain ⟨v1, vs1, d1, ds1, p1, q1, rfl, rfl, rfl, h1, r1⟩ := trodAll_cons r0
  obtain ⟨rfl, rfl, rfl⟩ := trodAll_nil r1
  obtain rfl : args = #[v0, v1] := by cases args; simp_all
  obtain ⟨rfl, rfl⟩ := trodVars_none hV
  have k0 := h0
  have lt0 : ∀ x ∈ p0, x.block < W.heap.size := by obtain ⟨m, hm⟩ := k0; exact DataW.trod_lt m _ _ _ hm
  obtain ⟨ka, kl, kcp, rfl⟩ := okWide_slice Try.underlying22 (hval 0 22 v0 rfl rfl)
  obtain ⟨ts, hT, hz⟩ : ∃ ts, EView W 0 W.heap.size (.slice ka kl kcp) ts ∧ Sized ts := by obtain ⟨m, hm⟩ := h0; exact eview_of_trod hm
  obtain ⟨b1, rfl, rfl, rfl, wb1⟩ := open_int Try.underlying2 (hval 1 2 v1 rfl rfl) h1
  clear hA0 hval0
  refine (lawDirRemove_walk W b1 hz hT).mono fun e W' ⟨he, bel⟩ => ?_
  subst he
  exact ⟨_, rfl, _, _, _, [], _, [], hW', trodAll_mk1 (shut_bool Try.underlying4 _), (trodAll_cons_mk (Below.trod laidOut (by kernel_rfl) (of_decide_eq_true (by kernel_rfl)) k0 bel lt0) (trodAll_cons_mk (shut_int Try.underlying2 wb1) trodAll_mk0)), rfl, bel.frame _, fun h => by cases h⟩

theorem fnExactDirRemove_holds : Rows.FnExactDirRemoveSaid :=
  OpenClaim.holds_of_wide 3 Try.f3 rfl rfl rfl rfl rfl rfl rfl ⟨rfl, rfl, rfl, rfl, rfl⟩ rfl rfl rfl rfl rfl (by kernel_rfl) Try.func3 (by kernel_rfl)
    (of_decide_eq_true (by kernel_rfl)) (by unfold Func.isWrapper; first | (rw [if_pos (by decide +kernel)]; kernel_rfl) | (rw [if_neg (by decide +kernel)]; exact ⟨rfl, rfl⟩))
    (fun os started H enc _ => lawDirRemove_lifted os started H enc)
#print axioms fnExactDirRemove_holds
end Go.Proofs.Ytpcgbnfdhjepmaa

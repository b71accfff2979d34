/- The law on DiskImage. -/
import Derived.Test.YtplfehjaakkldaaSpecImage
import Derived.Test.YtplfehjaakkldaaEq
import Derived.Test.YtplfehjaakkldaaMarkD
import Derived.Test.YtplfehjaakkldaaSz
import Derived.Test.YtplfehjaakkldaaTo
import Derived.Test.YtplfehjaakkldaaOpen
namespace Go.Proofs.Ytplfehjaakkldaa
open Go.ChangeShapes Go.WideShapes Go.ChangeAt Go.RowKit Go.Joins Go.Deep

theorem fits_of_cnt {d : Dsk} (h : cntD d ≤ 1048576) : d.Fits := by
  unfold cntD at h
  have h1 := cnt_ge d.pend
  refine ⟨by omega, by omega, fun i hi => ?_⟩
  have := cnt_take_succ d.pend i hi
  have := cnt_take_le d.pend (i + 1)
  omega

theorem imageD_length (d : Dsk) : (imageD d).length ≤ d.dur.length := by
  unfold imageD
  split
  · rename_i h
    have := stl_length (fun _ => true) d ((validB_iff d).1 h) d.pend.length (Nat.le_refl _)
    simp only [setD]
    omega
  · simp

set_option maxHeartbeats 4000000 in
theorem lawDiskImage_walk (w : World) {hi : Nat} {a : Value} {d : Dsk} (h1 : DView w 0 hi a d) :
    Calls Try.prog 5 #[a] w fun e w' => e = .returned (.bool true) ∧ Below w.heap.size w w' := by
  have d0 := h1
  have hrl0 := imageD_length d
  obtain ⟨dv, pv, rfl, v1, p1⟩ := h1
  obtain ⟨ao, cap, rfl, _, _, _⟩ := v1
  obtain ⟨po, pcap, rfl, _, _, _⟩ := p1
  have hA : Chg 0 0 w (w.alloc (.cells #[.slice ao d.dur.length cap, .slice po d.pend.length pcap] 25)) := Chg.alloc (Chg.refl 0 0 w) _
  have B0 := heap_new w (.cells #[.slice ao d.dur.length cap, .slice po d.pend.length pcap] 25)
  have s0 : (w.alloc (.cells #[.slice ao d.dur.length cap, .slice po d.pend.length pcap] 25)).heap.size = w.heap.size + 1 := by simp
  go_enter Try.func5, Try.ntmps5
  go_wp2_with fail
  generalize w.alloc (.cells #[.slice ao d.dur.length cap, .slice po d.pend.length pcap] 25) = wa at *
  refine (szDisk_calls _ d 1048576 (by omega) (d0.chg hA (by omega))).mono ?_
  rintro e wb ⟨rfl, hb⟩
  have s1 := hb.size
  have B0 := (hb.block w.heap.size (by omega) (by omega)).trans B0
  have hB := hA.trans hb
  clear hA hb
  by_cases hcnt : cntD d ≤ 1048576
  case neg =>
    rw [lft_neg hcnt]
    go_wp2
    go_ret
    exact ⟨rfl, hB.below (by omega)⟩
  rw [lft_pos hcnt]
  have hfit := fits_of_cnt hcnt
  have hdl : d.dur.length ≤ 1048576 := by unfold cntD at hcnt; omega
  have hrl : (imageD d).length ≤ 1048576 := by omega
  have db := d0.chg hB (by omega)
  obtain ⟨x0, x1, _, _⟩ := two_cells B0
  go_wp2_with fail
  refine (toDisk_calls _ hcnt db).mono ?_
  rintro e wc ⟨vc, rfl, oc, hc⟩
  have s2 := hc.size
  have B0 := (hc.block w.heap.size (by omega) (by omega)).trans B0
  have hC := hB.trans hc
  clear hc hB x0 x1 db
  go_wp2_with fail
  refine (specImage_calls _ (oc.view hfit) (Nat.le_refl _) hdl).mono ?_
  rintro e wd ⟨vw, rfl, ow, hd⟩
  have s3 := hd.size
  have B0 := (hd.block w.heap.size (by omega) (by omega)).trans B0
  have hD := hC.trans hd
  have dd := d0.chg hD (by omega)
  have vw0 := ow.view (hi := wd.heap.size) (by omega) (fun g hg => (ow.lt g hg).2)
  clear hd hC oc ow
  obtain ⟨x0, x1, _, _⟩ := two_cells B0
  go_wp2_with fail
  refine (toDisk_calls _ hcnt dd).mono ?_
  rintro e we ⟨vx, rfl, ox, he⟩
  obtain ⟨a1, l1, c1, a1', l1', c1', rfl⟩ := ox.agg
  have s4 := he.size
  have B0 := (he.block w.heap.size (by omega) (by omega)).trans B0
  have hE := hD.trans he
  have vw0 := vw0.chg he (by omega)
  clear he hD dd x0 x1
  have B1 := heap_new we (.cells #[.slice a1 l1 c1, .slice a1' l1' c1'] 29)
  have B0 := (Below.heap_alloc we (.cells #[.slice a1 l1 c1, .slice a1' l1' c1'] 29) _ (by omega)).trans B0
  have sE : (we.alloc (.cells #[.slice a1 l1 c1, .slice a1' l1' c1'] 29)).heap.size = we.heap.size + 1 := by simp
  have cE : Chg 0 0 we (we.alloc (.cells #[.slice a1 l1 c1, .slice a1' l1' c1'] 29)) := Chg.alloc (Chg.refl 0 0 we) _
  go_wp2_with fail
  generalize we.alloc (.cells #[.slice a1 l1 c1, .slice a1' l1' c1'] 29) = we' at *
  have ox := ox.chg cE (by omega)
  have vw0 := vw0.chg cE (by omega)
  have hE := hE.trans cE
  clear cE
  refine (implImage_calls _ (ox.view hfit)).mono ?_
  rintro e wf ⟨vg, rfl, og, hf⟩
  have s5 := hf.size
  have B0 := (hf.block w.heap.size (by omega) (by omega)).trans B0
  have B1 := (hf.block we.heap.size (by omega) (by omega)).trans B1
  have hF := hE.trans hf
  have ox := ox.chg hf (by omega)
  have vw0 := vw0.chg hf (by omega)
  have gu := og.lt
  have vg0 := og.view (hi := wf.heap.size) (by omega) (fun g hg => (gu g hg).2)
  clear hf hE
  go_wp2_with fail
  refine (eqByteS_calls _ vg0 vw0).mono ?_
  rintro e wg ⟨rfl, hs⟩
  have hg := hs.chg 0 0
  have s6 := hg.size
  have B0 := (hg.block w.heap.size (by omega) (by omega)).trans B0
  have B1 := (hg.block we.heap.size (by omega) (by omega)).trans B1
  have hG := hF.trans hg
  have ox := ox.chg hg (by omega)
  have vw0 := vw0.chg hg (by omega)
  have og := og.chg hg (by intro g _; omega)
  clear hg hs hF vg0
  have dg := d0.chg hG (by omega)
  have vx := ox.view hfit
  obtain ⟨x0, x1, _, _⟩ := two_cells B0
  obtain ⟨y0, y1, _, _⟩ := two_cells B1
  have s5' : we.heap.size < wg.heap.size := by omega
  go_wp2
  go_region_with (first
    | (go_at_call 11; refine (toDisk_calls _ hcnt (dg.chg (Chg.drew (Chg.refl 0 0 _)) (by omega))).mono ?_; rintro e wh ⟨vh, rfl, oh, hh⟩; obtain ⟨z0, z1, _, _⟩ := two_cells ((hh.block we.heap.size (by exact s5') (by omega)).trans B1))
    | (go_at_call 14; refine (eqDisk_calls _ (vx.chg ((Chg.drew (Chg.refl 0 0 _)).trans hh) (by omega)) (oh.view hfit)).mono ?_; rintro e wi ⟨rfl, hi'⟩))
  all_goals
    have hI : Chg 0 0 wg wi := (Chg.drew (Chg.refl 0 0 wg)).trans (hh.trans hi')
    have s7 := hI.size
    have B0 := (hI.block w.heap.size (by omega) (by omega)).trans B0
    have B1 := (hI.block we.heap.size (by omega) (by omega)).trans B1
    have hII := hG.trans hI
    have ox := ox.chg hI (by omega)
    have vw0 := vw0.chg hI (by omega)
    have og := og.chg hI (by intro g _; omega)
    clear hI hi' hh hG dg vx x0 x1 y0 y1 z0 z1 oh
    obtain ⟨y0, y1, _, _⟩ := two_cells B1
    go_wp2_with fail
    refine (markDisk_calls _ _ _ (by decide) 1 _ _ hfit (by omega) (by omega) ox).mono ?_
    rintro e wj ⟨rfl, om, hj⟩
    have s8 := hj.size
    have B0 := (hj.block w.heap.size (by omega) (by omega)).trans B0
    have vw0 := vw0.chg hj (by omega)
    have og := og.chg hj (by intro g hg; have := gu g hg; omega)
    have hJ : Chg 0 0 w wj := hII.step hj (Or.inr (Or.inl (by omega)))
    clear hj hII ox om y0 y1 B1
    have vg0 := og.view (hi := wf.heap.size) (by omega) (fun g hg => (gu g hg).2)
    go_wp2_with fail
    refine (eqByteS_calls _ vg0 vw0).mono ?_
    rintro e wk ⟨rfl, hs⟩
    have hk := hs.chg 0 0
    have s9 := hk.size
    have B0 := (hk.block w.heap.size (by omega) (by omega)).trans B0
    have hK := hJ.trans hk
    have vw0 := vw0.chg hk (by omega)
    have og := og.chg hk (by intro g _; omega)
    clear hk hs hJ vg0
    go_wp2_with fail
    refine (markByteS_calls _ _ _ _ _ 1 we'.heap.size wf.heap.size (by omega) (by omega) og gu).mono ?_
    rintro e wl ⟨rfl, om, hl, _, _⟩
    have s10 := hl.size
    have B0 := (hl.block w.heap.size (by omega) (by omega)).trans B0
    have hL : Chg 0 0 w wl := hK.step hl (Or.inr (Or.inl (by omega)))
    have vw0 := vw0.chg hl (by omega)
    have vm := om.view (hi := wf.heap.size) (by rw [marks_length]; omega) (fun g hg => (gu g hg).2)
    clear hl hK og om
    go_wp2_with fail
    refine (heldByteS_calls _ 1 (imageD d).length (by omega) vm).mono ?_
    rintro e wm ⟨rfl, hs⟩
    have hm := hs.chg 0 0
    have s11 := hm.size
    have B0 := (hm.block w.heap.size (by omega) (by omega)).trans B0
    have hM := hL.trans hm
    have vw0 := vw0.chg hm (by omega)
    have dm := d0.chg hM (by omega)
    clear hm hs hL vm
    obtain ⟨x0, x1, _, _⟩ := two_cells B0
    have hne : (((1 + (imageD d).length : Nat) : Int) != ((1 + (imageD d).length : Nat) : Int)) = false := by simp
    go_wp2_with fail
    refine (toDisk_calls _ hcnt dm).mono ?_
    rintro e wn ⟨vn, rfl, on, hn⟩
    have hN := hM.trans hn
    have vw0 := vw0.chg hn (by omega)
    clear hn hM dm x0 x1 B0 hne
    go_wp2_with fail
    refine (implImage_calls _ (on.view hfit)).mono ?_
    rintro e wo ⟨vo, rfl, oo, ho⟩
    have hO := hN.trans ho
    have vw0 := vw0.chg ho (by omega)
    have vo0 := oo.view (hi := wo.heap.size) (by omega) (fun g hg => (oo.lt g hg).2)
    clear ho hN on oo
    go_wp2_with fail
    refine (eqByteS_calls _ vo0 vw0).mono ?_
    rintro e wp ⟨rfl, hs⟩
    have hP := hO.trans (hs.chg 0 0)
    clear hs hO vw0 vo0
    go_wp2
    go_ret
    exact ⟨rfl, hP.below (by omega)⟩

set_option maxRecDepth 100000 in
theorem lawDiskImage_lifted (os : Os) (started : os.Started) (H : Type) (enc : TypeId × Value → H) :
    ReturnsInHanded {} Try.checked os 5 .any (Rows.fnExactDiskImageSpec.pre6 enc Try.prog Try.f5 Rows.fnExactDiskImageRow.domain false) (Rows.fnExactDiskImageSpec.post enc Try.prog Try.f5 false true false false) := by
  refine returnsInHanded_of_change (C := Try.checked) own started (by kernel_rfl) Try.func5
    (ChangeSpec.witness6 (enc := enc) (C := Try.checked) false ⟨#[], #[.agg #[.slice none 0 0, .slice none 0 0]], []⟩ 8 (by kernel_rfl) (by kernel_rfl) (by kernel_rfl) (by kernel_rfl)) ?_
  intro W base args ds gs before hval0 hW hcnd _
  have hval : ∀ (j : Nat) t v, Try.f5.params[j]? = some t → args[j]? = some v → Value.okWide Try.prog W .any base t v := hval0
  have hW' := hW
  obtain ⟨p, q, hA0, hV, rfl, hfz, hnd⟩ := hW
  have hA : DataW.TrodAll enc Try.prog W 0 (fun _ => true) true Try.f5.params.toList args.toList ds p := hA0
  rw [Try.params5] at hA hval
  obtain ⟨v0, vs0, d0, ds0, p0, q0, hargs, rfl, rfl, h0, r0⟩ := trodAll_cons hA
  obtain ⟨rfl, rfl, rfl⟩ := trodAll_nil r0
  obtain rfl : args = #[v0] := by cases args; simp_all
  obtain ⟨rfl, rfl⟩ := trodVars_none hV
  have k0 := h0
  have lt0 : ∀ x ∈ p0, x.block < W.heap.size := by obtain ⟨m, hm⟩ := k0; exact DataW.trod_lt m _ _ _ hm
  obtain ⟨dd, w0⟩ := dview_of_trod (hval 0 25 v0 rfl rfl) h0
  clear hA0 hval0
  refine (lawDiskImage_walk W w0).mono fun e W' ⟨he, bel⟩ => ?_
  subst he
  exact ⟨_, rfl, _, _, _, [], _, [], hW', trodAll_mk1 (shut_bool Try.underlying4 _), (trodAll_cons_mk (Below.trod laidOut (by kernel_rfl) (of_decide_eq_true (by kernel_rfl)) k0 bel lt0) trodAll_mk0), rfl, bel.frame _, fun h => by cases h⟩

theorem fnExactDiskImage_holds : Rows.FnExactDiskImageSaid :=
  OpenClaim.holds_of_wide 5 Try.f5 rfl rfl rfl rfl rfl rfl rfl ⟨rfl, rfl, rfl, rfl, rfl⟩ rfl rfl rfl rfl rfl (by kernel_rfl) Try.func5 (by kernel_rfl)
    (of_decide_eq_true (by kernel_rfl)) (by unfold Func.isWrapper; first | (rw [if_pos (by decide +kernel)]; kernel_rfl) | (rw [if_neg (by decide +kernel)]; exact ⟨rfl, rfl⟩))
    (fun os started H enc _ => lawDiskImage_lifted os started H enc)
#print axioms fnExactDiskImage_holds
end Go.Proofs.Ytplfehjaakkldaa

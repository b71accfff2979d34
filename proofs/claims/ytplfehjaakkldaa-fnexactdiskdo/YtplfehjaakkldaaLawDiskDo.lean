/- The law on DiskDo. -/
import Derived.Test.YtplfehjaakkldaaSpecDo
import Derived.Test.YtplfehjaakkldaaEq
import Derived.Test.YtplfehjaakkldaaHeldD
import Derived.Test.YtplfehjaakkldaaSz
import Derived.Test.YtplfehjaakkldaaTo
import Derived.Test.YtplfehjaakkldaaOpsSz
import Derived.Test.YtplfehjaakkldaaOpsTo
import Derived.Test.YtplfehjaakkldaaOpenO
namespace Go.Proofs.Ytplfehjaakkldaa
open Go.ChangeShapes Go.WideShapes Go.ChangeAt Go.RowKit Go.Joins Go.Deep

theorem fits_of_cnt {d : Dsk} (h : cntD d ≤ 4194304) : d.Fits := by
  unfold cntD at h
  have h1 := cnt_ge d.pend
  refine ⟨by omega, by omega, fun i hi => ?_⟩
  have := cnt_take_succ d.pend i hi
  have := cnt_take_le d.pend (i + 1)
  omega

theorem valid_cnt {d : Dsk} (h : Valid d) : cntD d ≤ d.dur.length + 39000 := by
  obtain ⟨_, _, _, h4, h5⟩ := h
  have : ∀ k, k ≤ d.pend.length → cnt (d.pend.take k) ≤ 65 * k := by
    intro k
    induction k with
    | zero => intro _; simp [cnt]
    | succ k ih =>
      intro hk
      have h6 := (h5 k (by omega)).2.2
      have h7 := cnt_take_succ d.pend k (by omega)
      have h8 := ih (by omega)
      omega
  have h9 := this d.pend.length (Nat.le_refl _)
  rw [List.take_length] at h9
  unfold cntD
  omega

theorem runD_valid (os : List Opx) {d d' : Dsk} (hv : Valid d) (h : runD d os = some d') : Valid d' ∧ d'.dur.length = d.dur.length := by
  induction os generalizing d with
  | nil => simp only [runD, Option.some.injEq] at h; subst h; exact ⟨hv, rfl⟩
  | cons o r ih =>
    simp only [runD] at h
    cases e : opD d o with
    | none => rw [e] at h; cases h
    | some x =>
      rw [e] at h
      obtain ⟨h1, h2⟩ := ih (opD_valid hv e) h
      exact ⟨h1, h2.trans (opD_dur hv e)⟩

theorem doD_cnt (d : Dsk) (os : List Opx) (limit : Int) : cntD (doD d os limit) ≤ cntD d + 39000 := by
  unfold doD
  split
  · rename_i hv
    cases e : runD d (firstN os limit) with
    | none => simp [Dsk.none, cntD, cnt]
    | some x =>
      obtain ⟨h1, h2⟩ := runD_valid _ ((validB_iff d).1 hv.1) e
      have h3 := valid_cnt h1
      have h4 : d.dur.length ≤ cntD d := by unfold cntD; omega
      simp only [Option.getD_some]
      omega
  · simp [Dsk.none, cntD, cnt]

theorem OwnOx.lt {w : World} {base g n cap : Nat} {eO eB : TypeId} {os : List Opx} {cells : List Value} {dvs : Nat → Value} (h : OwnOx w base eO eB (.slice (some ⟨g, 0, none⟩) n cap) os cells dvs) : base ≤ g ∧ g < w.heap.size :=
  World.ownsRow.lt h.row g rfl

theorem OwnOx.dlt {w : World} {base : Nat} {eO eB : TypeId} {v : Value} {os : List Opx} {cells : List Value} {dvs : Nat → Value} (h : OwnOx w base eO eB v os cells dvs) : ∀ i g, i < os.length → (dvs i).ownBlock = some g → base ≤ g ∧ g < w.heap.size :=
  fun i g hi hg => (h.data i hi).lt g hg

theorem OwnOx.vw {w : World} {base : Nat} {eO eB : TypeId} {v : Value} {os : List Opx} {cells : List Value} {dvs : Nat → Value} (h : OwnOx w base eO eB v os cells dvs) (hl : cntO os ≤ 1048576) : OView w base w.heap.size v os :=
  h.view (by have := cntO_ge os; omega) (fun i hi => by have := cntO_data hi; omega) (fun g hg => (World.ownsRow.lt h.row g hg).2) (fun i g hi hg => (h.dlt i g hi hg).2)

set_option maxRecDepth 20000 in
set_option maxHeartbeats 8000000 in
theorem lawDiskDo_walk (w : World) {hi : Nat} {a kv : Value} {d : Dsk} (limit : Int) (os : List Opx) (h1 : DView w 0 hi a d) (hk : OView w 0 hi kv os) :
    Calls Try.prog 8 #[a, kv, .int .i64 limit] w fun e w' => e = .returned (.bool true) ∧ Below w.heap.size w w' := by
  have d0 := h1
  have k0 := hk
  obtain ⟨ko, kcap, rfl, hkl0, _, _⟩ := hk
  obtain ⟨dv, pv, rfl, v1, p1⟩ := h1
  obtain ⟨ao, cap, rfl, _, _, _⟩ := v1
  obtain ⟨po, pcap, rfl, _, _, _⟩ := p1
  have hA : Chg 0 0 w (w.alloc (.cells #[.slice ao d.dur.length cap, .slice po d.pend.length pcap] 25)) := Chg.alloc (Chg.refl 0 0 w) _
  have B0 := heap_new w (.cells #[.slice ao d.dur.length cap, .slice po d.pend.length pcap] 25)
  have s0 : (w.alloc (.cells #[.slice ao d.dur.length cap, .slice po d.pend.length pcap] 25)).heap.size = w.heap.size + 1 := by simp
  go_enter Try.func8, Try.ntmps8
  go_wp2_with fail
  generalize w.alloc (.cells #[.slice ao d.dur.length cap, .slice po d.pend.length pcap] 25) = wa at *
  refine (szDisk_calls _ d 1048576 (by omega) (d0.chg hA (by omega))).mono ?_
  rintro e wb ⟨rfl, hb⟩
  have s1 := hb.size
  have B0 := (hb.block w.heap.size (by omega) (by omega)).trans B0
  have hB := hA.trans hb
  clear hA hb
  by_cases hcnt : cntD d ≤ 1048576
  case neg =>
    rw [lft_neg hcnt]
    go_wp2
    go_ret
    exact ⟨rfl, hB.below (by omega)⟩
  rw [lft_pos hcnt]
  have kb := k0.chg hB (by omega)
  go_wp2_with fail
  refine (szOpS_calls _ os (1048576 - cntD d) (by omega) kb).mono ?_
  rintro e wb2 ⟨rfl, hb⟩
  have s1b := hb.size
  have B0 := (hb.block w.heap.size (by omega) (by omega)).trans B0
  have hB := hB.trans hb
  clear hb kb
  by_cases hcO2 : cntO os ≤ 1048576 - cntD d
  case neg =>
    rw [lft_neg hcO2]
    go_wp2
    go_ret
    exact ⟨rfl, hB.below (by omega)⟩
  rw [lft_pos hcO2]
  have hcO : cntO os ≤ 1048576 := by omega
  have hfit := fits_of_cnt (d := d) (by omega)
  have hdl : d.dur.length ≤ 1048576 := by unfold cntD at hcnt; omega
  have hrc : cntD (doD d os limit) ≤ 1048576 + 39000 := Nat.le_trans (doD_cnt d os limit) (by omega)
  have hfr : (doD d os limit).Fits := fits_of_cnt (by omega)
  have db := d0.chg hB (by omega)
  obtain ⟨x0, x1, _, _⟩ := two_cells B0
  go_wp2_with fail
  refine (toDisk_calls _ hcnt db).mono ?_
  rintro e wc ⟨vc, rfl, oc, hc⟩
  have s2 := hc.size
  have B0 := (hc.block w.heap.size (by omega) (by omega)).trans B0
  have hC := hB.trans hc
  have kc := k0.chg hC (by omega)
  clear hc hB x0 x1 db
  go_wp2_with fail
  refine (toOpS_calls _ hcO kc).mono ?_
  rintro e wc2 ⟨gk, rfl, ⟨kcs, kds, ok⟩, hc⟩
  have s2b := hc.size
  have B0 := (hc.block w.heap.size (by omega) (by omega)).trans B0
  have oc := oc.chg hc (by omega)
  have hC := hC.trans hc
  have vk := ok.vw hcO
  clear hc kc ok
  go_wp2_with fail
  refine (specDo_calls _ limit (oc.view hfit) vk hdl).mono ?_
  rintro e wd ⟨vw, rfl, ow, hd⟩
  obtain ⟨aw, lw, cw, aw', lw', cw', rfl⟩ := ow.agg
  have s3 := hd.size
  have B0 := (hd.block w.heap.size (by omega) (by omega)).trans B0
  have hD := hC.trans hd
  have vw0 := ow.view hfr
  clear hd hC oc ow vk
  have BW := heap_new wd (.cells #[.slice aw lw cw, .slice aw' lw' cw'] 29)
  have B0 := (Below.heap_alloc wd (.cells #[.slice aw lw cw, .slice aw' lw' cw'] 29) _ (by omega)).trans B0
  have sW : (wd.alloc (.cells #[.slice aw lw cw, .slice aw' lw' cw'] 29)).heap.size = wd.heap.size + 1 := by simp
  have cW : Chg 0 0 wd (wd.alloc (.cells #[.slice aw lw cw, .slice aw' lw' cw'] 29)) := Chg.alloc (Chg.refl 0 0 wd) _
  obtain ⟨x0, x1, _, _⟩ := two_cells B0
  go_wp2_with fail
  generalize wd.alloc (.cells #[.slice aw lw cw, .slice aw' lw' cw'] 29) = wd' at *
  have vw0 := vw0.chg cW (by omega)
  have hD := hD.trans cW
  have dd := d0.chg hD (by omega)
  clear cW
  refine (toDisk_calls _ hcnt dd).mono ?_
  rintro e we ⟨vx, rfl, ox, he⟩
  obtain ⟨a1, l1, c1, a1', l1', c1', rfl⟩ := ox.agg
  have s4 := he.size
  have B0 := (he.block w.heap.size (by omega) (by omega)).trans B0
  have BW := (he.block wd.heap.size (by omega) (by omega)).trans BW
  have hE := hD.trans he
  have vw0 := vw0.chg he (by omega)
  clear he hD dd x0 x1
  have B1 := heap_new we (.cells #[.slice a1 l1 c1, .slice a1' l1' c1'] 29)
  have B0 := (Below.heap_alloc we (.cells #[.slice a1 l1 c1, .slice a1' l1' c1'] 29) _ (by omega)).trans B0
  have BW := (Below.heap_alloc we (.cells #[.slice a1 l1 c1, .slice a1' l1' c1'] 29) _ (by omega)).trans BW
  have sE : (we.alloc (.cells #[.slice a1 l1 c1, .slice a1' l1' c1'] 29)).heap.size = we.heap.size + 1 := by simp
  have cE : Chg 0 0 we (we.alloc (.cells #[.slice a1 l1 c1, .slice a1' l1' c1'] 29)) := Chg.alloc (Chg.refl 0 0 we) _
  go_wp2_with fail
  generalize we.alloc (.cells #[.slice a1 l1 c1, .slice a1' l1' c1'] 29) = we' at *
  have ox := ox.chg cE (by omega)
  have vw0 := vw0.chg cE (by omega)
  have hE := hE.trans cE
  clear cE
  have ke := k0.chg hE (by omega)
  refine (toOpS_calls _ hcO ke).mono ?_
  rintro e wx ⟨gx, rfl, ⟨xcs, xds, oi⟩, hx⟩
  have sx := hx.size
  have gxb := oi.lt
  have dxb : Hid (∀ i g, i < os.length → (xds i).ownBlock = some g → we'.heap.size ≤ g ∧ g < wx.heap.size) := oi.dlt
  have B0 := (hx.block w.heap.size (by omega) (by omega)).trans B0
  have BW := (hx.block wd.heap.size (by omega) (by omega)).trans BW
  have B1 := (hx.block we.heap.size (by omega) (by omega)).trans B1
  have hE := hE.trans hx
  have ox := ox.chg hx (by omega)
  have vw0 := vw0.chg hx (by omega)
  have vi := oi.vw hcO
  clear hx ke
  obtain ⟨y0, y1, _, _⟩ := two_cells B1
  go_wp2_with fail
  refine (implDo_calls _ limit (ox.view hfit) vi (Nat.le_refl _)).mono ?_
  rintro e wf ⟨vg, rfl, og, hf⟩
  obtain ⟨a2, l2, c2, a2', l2', c2', rfl⟩ := og.agg
  have s5 := hf.size
  have B0 := (hf.block w.heap.size (by omega) (by omega)).trans B0
  have BW := (hf.block wd.heap.size (by omega) (by omega)).trans BW
  have B1 := (hf.block we.heap.size (by omega) (by omega)).trans B1
  have hF := hE.trans hf
  have ox := ox.chg hf (by omega)
  have vw0 := vw0.chg hf (by omega)
  have oi := oi.chg hf (by intro g _; omega) (by intro _ g _ _; omega)
  clear hf hE vi y0 y1
  have B2 := heap_new wf (.cells #[.slice a2 l2 c2, .slice a2' l2' c2'] 29)
  have sF : (wf.alloc (.cells #[.slice a2 l2 c2, .slice a2' l2' c2'] 29)).heap.size = wf.heap.size + 1 := by simp
  have cF : Chg 0 0 wf (wf.alloc (.cells #[.slice a2 l2 c2, .slice a2' l2' c2'] 29)) := Chg.alloc (Chg.refl 0 0 wf) _
  have B0 := (cF.block w.heap.size (by omega) (by omega)).trans B0
  have BW := (cF.block wd.heap.size (by omega) (by omega)).trans BW
  have B1 := (cF.block we.heap.size (by omega) (by omega)).trans B1
  obtain ⟨q0, q1, _, _⟩ := two_cells BW
  obtain ⟨r0, r1, _, _⟩ := two_cells B2
  go_wp2_with fail
  generalize wf.alloc (.cells #[.slice a2 l2 c2, .slice a2' l2' c2'] 29) = wf' at *
  have og := og.chg cF (by omega)
  have ox := ox.chg cF (by omega)
  have vw0 := vw0.chg cF (by omega)
  have hF := hF.trans cF
  have oi := oi.chg cF (by intro g _; omega) (by intro _ g _ _; omega)
  have vg0 := og.view hfr
  clear cF
  refine (eqDisk_calls _ vg0 vw0).mono ?_
  rintro e wg ⟨rfl, hg⟩
  have s6 := hg.size
  have B0 := (hg.block w.heap.size (by omega) (by omega)).trans B0
  have BW := (hg.block wd.heap.size (by omega) (by omega)).trans BW
  have B1 := (hg.block we.heap.size (by omega) (by omega)).trans B1
  have B2 := (hg.block wf.heap.size (by omega) (by omega)).trans B2
  have hG := hF.trans hg
  have ox := ox.chg hg (by omega)
  have vw0 := vw0.chg hg (by omega)
  have og := og.chg hg (by omega)
  have oi := oi.chg hg (by intro g _; omega) (by intro _ g _ _; omega)
  clear hg hF vg0 q0 q1 r0 r1
  have dg := d0.chg hG (by omega)
  have vx := ox.view hfit
  obtain ⟨x0, x1, _, _⟩ := two_cells B0
  obtain ⟨y0, y1, _, _⟩ := two_cells B1
  have s5' : we.heap.size < wg.heap.size := by omega
  go_wp2
  go_region_with (first
    | (go_at_call 11; refine (toDisk_calls _ hcnt (dg.chg (Chg.drew (Chg.refl 0 0 _)) (by omega))).mono ?_; rintro e wh ⟨vh, rfl, oh, hh⟩; obtain ⟨z0, z1, _, _⟩ := two_cells ((hh.block we.heap.size (by exact s5') (by omega)).trans B1))
    | (go_at_call 14; refine (eqDisk_calls _ (vx.chg ((Chg.drew (Chg.refl 0 0 _)).trans hh) (by omega)) (oh.view hfit)).mono ?_; rintro e wi ⟨rfl, hi'⟩))
  all_goals
    have hI : Chg 0 0 wg wi := (Chg.drew (Chg.refl 0 0 wg)).trans (hh.trans hi')
    have s7 := hI.size
    have B0 := (hI.block w.heap.size (by omega) (by omega)).trans B0
    have BW := (hI.block wd.heap.size (by omega) (by omega)).trans BW
    have B1 := (hI.block we.heap.size (by omega) (by omega)).trans B1
    have B2 := (hI.block wf.heap.size (by omega) (by omega)).trans B2
    have hII := hG.trans hI
    have ox := ox.chg hI (by omega)
    have vw0 := vw0.chg hI (by omega)
    have og := og.chg hI (by omega)
    have oi := oi.chg hI (by intro g _; omega) (by intro _ g _ _; omega)
    clear hI hi' hh hG dg vx x0 x1 y0 y1 z0 z1 oh
    have ki := k0.chg hII (by omega)
    go_wp2_with fail
    refine (toOpS_calls _ hcO ki).mono ?_
    rintro e wi2 ⟨gi, rfl, ⟨jcs, jds, oj⟩, hI⟩
    have s7b := hI.size
    have B0 := (hI.block w.heap.size (by omega) (by omega)).trans B0
    have BW := (hI.block wd.heap.size (by omega) (by omega)).trans BW
    have B1 := (hI.block we.heap.size (by omega) (by omega)).trans B1
    have B2 := (hI.block wf.heap.size (by omega) (by omega)).trans B2
    have hII := hII.trans hI
    have ox := ox.chg hI (by omega)
    have vw0 := vw0.chg hI (by omega)
    have og := og.chg hI (by omega)
    have oi := oi.chg hI (by intro g _; omega) (by intro _ g _ _; omega)
    have vi := oi.vw hcO
    have vj := oj.vw hcO
    clear hI ki oj
    go_wp2_with fail
    refine (eqOpS_calls _ vi vj).mono ?_
    rintro e wi3 ⟨rfl, hI⟩
    have s7c := hI.size
    have B0 := (hI.block w.heap.size (by omega) (by omega)).trans B0
    have BW := (hI.block wd.heap.size (by omega) (by omega)).trans BW
    have B1 := (hI.block we.heap.size (by omega) (by omega)).trans B1
    have B2 := (hI.block wf.heap.size (by omega) (by omega)).trans B2
    have hII := hII.trans hI
    have ox := ox.chg hI (by omega)
    have vw0 := vw0.chg hI (by omega)
    have og := og.chg hI (by omega)
    have oi := oi.chg hI (by intro g _; omega) (by intro _ g _ _; omega)
    clear hI vi vj
    obtain ⟨y0, y1, _, _⟩ := two_cells B1
    go_wp2_with fail
    refine (markDisk_calls _ _ _ (by decide) 1 _ _ hfit (by omega) (by omega) ox).mono ?_
    rintro e wj ⟨rfl, om, hj⟩
    have s8 := hj.size
    have B0 := (hj.block w.heap.size (by omega) (by omega)).trans B0
    have BW := (hj.block wd.heap.size (by omega) (by omega)).trans BW
    have B2 := (hj.block wf.heap.size (by omega) (by omega)).trans B2
    have vw0 := vw0.chg hj (by omega)
    have og := og.chg hj (by omega)
    have hJ : Chg 0 0 w wj := hII.step hj (Or.inr (Or.inl (by omega)))
    have oi := oi.chg hj (by intro g hg; cases hg; show gx < _ ∨ _ ≤ gx; omega) (by intro i g hi hg; have := dxb i g hi hg; omega)
    clear hj hII ox om y0 y1 B1
    go_wp2_with fail
    refine (markOpS_some _ _ os (1 + cntD d) gx _ we'.heap.size wx.heap.size hcO (by omega) _ _ oi gxb dxb).mono ?_
    rintro e wj2 ⟨⟨nk, rfl⟩, hj⟩
    have s8b := hj.size
    have B0 := (hj.block w.heap.size (by omega) (by omega)).trans B0
    have BW := (hj.block wd.heap.size (by omega) (by omega)).trans BW
    have B2 := (hj.block wf.heap.size (by omega) (by omega)).trans B2
    have vw0 := vw0.chg hj (by omega)
    have og := og.chg hj (by omega)
    have hJ : Chg 0 0 w wj2 := hJ.step hj (Or.inr (Or.inl (by omega)))
    clear hj oi
    have vg0 := og.view hfr
    obtain ⟨q0, q1, _, _⟩ := two_cells BW
    obtain ⟨r0, r1, _, _⟩ := two_cells B2
    go_wp2_with fail
    refine (eqDisk_calls _ vg0 vw0).mono ?_
    rintro e wk ⟨rfl, hk⟩
    have s9 := hk.size
    have B0 := (hk.block w.heap.size (by omega) (by omega)).trans B0
    have BW := (hk.block wd.heap.size (by omega) (by omega)).trans BW
    have B2 := (hk.block wf.heap.size (by omega) (by omega)).trans B2
    have hK := hJ.trans hk
    have vw0 := vw0.chg hk (by omega)
    have og := og.chg hk (by omega)
    clear hk hJ vg0 q0 q1 r0 r1
    obtain ⟨r0, r1, _, _⟩ := two_cells B2
    go_wp2_with fail
    refine (markDisk_calls _ _ _ (by decide) 1 _ _ hfr (by omega) (by omega) og).mono ?_
    rintro e wl ⟨rfl, om, hl⟩
    have s10 := hl.size
    have B0 := (hl.block w.heap.size (by omega) (by omega)).trans B0
    have BW := (hl.block wd.heap.size (by omega) (by omega)).trans BW
    have B2 := (hl.block wf.heap.size (by omega) (by omega)).trans B2
    have hL : Chg 0 0 w wl := hK.step hl (Or.inr (Or.inl (by omega)))
    have vw0 := vw0.chg hl (by omega)
    have vm := om.view (mkD_fits hfr 1)
    clear hl hK og om r0 r1
    obtain ⟨r0, r1, _, _⟩ := two_cells B2
    go_wp2_with fail
    refine (heldDisk_calls _ (doD d os limit) 1 (by omega) vm).mono ?_
    rintro e wm ⟨rfl, hm⟩
    have s11 := hm.size
    have B0 := (hm.block w.heap.size (by omega) (by omega)).trans B0
    have BW := (hm.block wd.heap.size (by omega) (by omega)).trans BW
    have hM := hL.trans hm
    have vw0 := vw0.chg hm (by omega)
    have dm := d0.chg hM (by omega)
    clear hm hL vm r0 r1 B2
    obtain ⟨x0, x1, _, _⟩ := two_cells B0
    have hne : (((1 + cntD (doD d os limit) : Nat) : Int) != ((1 + cntD (doD d os limit) : Nat) : Int)) = false := by simp
    go_wp2_with fail
    refine (toDisk_calls _ hcnt dm).mono ?_
    rintro e wn ⟨vn, rfl, on, hn⟩
    have s12 := hn.size
    have BW := (hn.block wd.heap.size (by omega) (by omega)).trans BW
    have hN := hM.trans hn
    have vw0 := vw0.chg hn (by omega)
    have kn := k0.chg hN (by omega)
    clear hn hM dm x0 x1 B0 hne
    go_wp2_with fail
    refine (toOpS_calls _ hcO kn).mono ?_
    rintro e wn2 ⟨gn, rfl, ⟨qcs, qds, oq⟩, hn⟩
    have s12b := hn.size
    have BW := (hn.block wd.heap.size (by omega) (by omega)).trans BW
    have hN := hN.trans hn
    have vw0 := vw0.chg hn (by omega)
    have on := on.chg hn (by omega)
    have vq := oq.vw hcO
    clear hn kn oq
    go_wp2_with fail
    refine (implDo_calls _ limit (on.view hfit) vq (Nat.le_refl _)).mono ?_
    rintro e wo ⟨vo, rfl, oo, ho⟩
    obtain ⟨a3, l3, c3, a3', l3', c3', rfl⟩ := oo.agg
    have s13 := ho.size
    have BW := (ho.block wd.heap.size (by omega) (by omega)).trans BW
    have hO := hN.trans ho
    have vw0 := vw0.chg ho (by omega)
    have vo0 := oo.view hfr
    clear ho hN on oo vq
    have cO : Chg 0 0 wo (wo.alloc (.cells #[.slice a3 l3 c3, .slice a3' l3' c3'] 29)) := Chg.alloc (Chg.refl 0 0 wo) _
    have BW := (cO.block wd.heap.size (by omega) (by omega)).trans BW
    have B3 := heap_new wo (.cells #[.slice a3 l3 c3, .slice a3' l3' c3'] 29)
    obtain ⟨q0, q1, _, _⟩ := two_cells BW
    obtain ⟨r0, r1, _, _⟩ := two_cells B3
    go_wp2_with fail
    refine (eqDisk_calls _ (vo0.chg cO (by omega)) (vw0.chg cO (by omega))).mono ?_
    rintro e wp ⟨rfl, hs⟩
    have hP := (hO.trans cO).trans hs
    clear hs hO cO vw0 vo0 q0 q1 r0 r1 BW B3
    go_wp2
    go_ret
    exact ⟨rfl, hP.below (by omega)⟩

set_option maxRecDepth 100000 in
theorem lawDiskDo_lifted (os : Os) (started : os.Started) (H : Type) (enc : TypeId × Value → H) :
    ReturnsInHanded {} Try.checked os 8 .any (Rows.fnExactDiskDoSpec.pre6 enc Try.prog Try.f8 Rows.fnExactDiskDoRow.domain false) (Rows.fnExactDiskDoSpec.post enc Try.prog Try.f8 false true false false) := by
  refine returnsInHanded_of_change (C := Try.checked) own started (by kernel_rfl) Try.func8
    (ChangeSpec.witness6 (enc := enc) (C := Try.checked) false ⟨#[], #[.agg #[.slice none 0 0, .slice none 0 0], .slice none 0 0, .int .i64 0], []⟩ 8 (by kernel_rfl) (by kernel_rfl) (by kernel_rfl) (by kernel_rfl)) ?_
  intro W base args ds gs before hval0 hW hcnd _
  have hval : ∀ (j : Nat) t v, Try.f8.params[j]? = some t → args[j]? = some v → Value.okWide Try.prog W .any base t v := hval0
  have hW' := hW
  obtain ⟨p, q, hA0, hV, rfl, hfz, hnd⟩ := hW
  have hA : DataW.TrodAll enc Try.prog W 0 (fun _ => true) true Try.f8.params.toList args.toList ds p := hA0
  rw [Try.params8] at hA hval
  obtain ⟨v0, vs0, d0, ds0, p0, q0, hargs, rfl, rfl, h0, r0⟩ := trodAll_cons hA
  obtain ⟨v1, vs1, d1, ds1, p1, q1, rfl, rfl, rfl, h1, r1⟩ := trodAll_cons r0
  obtain ⟨v2, vs2, d2, ds2, p2, q2, rfl, rfl, rfl, h2, r2⟩ := trodAll_cons r1
  obtain ⟨rfl, rfl, rfl⟩ := trodAll_nil r2
  obtain rfl : args = #[v0, v1, v2] := by cases args; simp_all
  obtain ⟨rfl, rfl⟩ := trodVars_none hV
  have k0 := h0
  have lt0 : ∀ x ∈ p0, x.block < W.heap.size := by obtain ⟨m, hm⟩ := k0; exact DataW.trod_lt m _ _ _ hm
  obtain ⟨dd, w0⟩ := dview_of_trod (hval 0 25 v0 rfl rfl) h0
  have k1 := h1
  have lt1 : ∀ x ∈ p1, x.block < W.heap.size := by obtain ⟨m, hm⟩ := k1; exact DataW.trod_lt m _ _ _ hm
  obtain ⟨ka, kl, kcp, rfl⟩ := okWide_slice Try.underlying57 (hval 1 57 v1 rfl rfl)
  obtain ⟨ys, wk⟩ : ∃ xs, OView W 0 W.heap.size (.slice ka kl kcp) xs := by
    obtain ⟨fuel, hf⟩ := h1
    exact oview_of_trod hf
  obtain ⟨a2, rfl, rfl, rfl, w2⟩ := open_int Try.underlying2 (hval 2 2 v2 rfl rfl) h2
  clear hA0 hval0
  refine (lawDiskDo_walk W a2 ys w0 wk).mono fun e W' ⟨he, bel⟩ => ?_
  subst he
  exact ⟨_, rfl, _, _, _, [], _, [], hW', trodAll_mk1 (shut_bool Try.underlying4 _), (trodAll_cons_mk (Below.trod laidOut (by kernel_rfl) (of_decide_eq_true (by kernel_rfl)) k0 bel lt0) (trodAll_cons_mk (Below.trod laidOut (by kernel_rfl) (of_decide_eq_true (by kernel_rfl)) k1 bel lt1) (trodAll_cons_mk (shut_int Try.underlying2 w2) trodAll_mk0))), rfl, bel.frame _, fun h => by cases h⟩

theorem fnExactDiskDo_holds : Rows.FnExactDiskDoSaid :=
  OpenClaim.holds_of_wide 8 Try.f8 rfl rfl rfl rfl rfl rfl rfl ⟨rfl, rfl, rfl, rfl, rfl⟩ rfl rfl rfl rfl rfl (by kernel_rfl) Try.func8 (by kernel_rfl)
    (of_decide_eq_true (by kernel_rfl)) (by unfold Func.isWrapper; first | (rw [if_pos (by decide +kernel)]; kernel_rfl) | (rw [if_neg (by decide +kernel)]; exact ⟨rfl, rfl⟩))
    (fun os started H enc _ => lawDiskDo_lifted os started H enc)
#print axioms fnExactDiskDo_holds
end Go.Proofs.Ytplfehjaakkldaa

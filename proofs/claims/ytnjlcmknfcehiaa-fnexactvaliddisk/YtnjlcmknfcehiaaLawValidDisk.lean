/- The law on ValidDisk. -/
import Derived.Test.YtnjlcmknfcehiaaValid
import Derived.Test.YtnjlcmknfcehiaaEq
import Derived.Test.YtnjlcmknfcehiaaSz
import Derived.Test.YtnjlcmknfcehiaaTo
import Derived.Test.YtnjlcmknfcehiaaOpen
namespace Go.Proofs.Ytnjlcmknfcehiaa
open Go.ChangeShapes Go.WideShapes Go.ChangeAt Go.RowKit Go.Joins Go.Deep

theorem fits_of_cnt {d : Dsk} (h : cntD d ≤ 1048576) : d.Fits := by
  unfold cntD at h
  have h1 := cnt_ge d.pend
  refine ⟨by omega, by omega, fun i hi => ?_⟩
  have := cnt_take_succ d.pend i hi
  have := cnt_take_le d.pend (i + 1)
  omega

set_option maxHeartbeats 2000000 in
theorem lawValidDisk_walk (w : World) {hi : Nat} {a : Value} {d : Dsk} (h1 : DView w 0 hi a d) :
    Calls Try.prog 3 #[a] w fun e w' => e = .returned (.bool true) ∧ Below w.heap.size w w' := by
  have d0 := h1
  obtain ⟨dv, pv, rfl, v1, p1⟩ := h1
  obtain ⟨ao, cap, rfl, _, _, _⟩ := v1
  obtain ⟨po, pcap, rfl, _, _, _⟩ := p1
  have hA : Chg 0 0 w (w.alloc (.cells #[.slice ao d.dur.length cap, .slice po d.pend.length pcap] 25)) := Chg.alloc (Chg.refl 0 0 w) _
  have B0 := heap_new w (.cells #[.slice ao d.dur.length cap, .slice po d.pend.length pcap] 25)
  have s0 : (w.alloc (.cells #[.slice ao d.dur.length cap, .slice po d.pend.length pcap] 25)).heap.size = w.heap.size + 1 := by simp
  go_enter Try.func3, Try.ntmps3
  go_wp2_with fail
  generalize w.alloc (.cells #[.slice ao d.dur.length cap, .slice po d.pend.length pcap] 25) = wa at *
  refine (szDisk_calls _ d 1048576 (by omega) (d0.chg hA (by omega))).mono ?_
  rintro e wb ⟨rfl, hb⟩
  have s1 := hb.size
  have B0 := (hb.block w.heap.size (by omega) (by omega)).trans B0
  have hB := hA.trans hb
  clear hA hb
  by_cases hcnt : cntD d ≤ 1048576
  case neg =>
    rw [lft_neg hcnt]
    go_wp2
    go_ret
    exact ⟨rfl, hB.below (by omega)⟩
  rw [lft_pos hcnt]
  have hfit := fits_of_cnt hcnt
  have db := d0.chg hB (by omega)
  obtain ⟨x0, x1, _, _⟩ := two_cells B0
  go_wp2_with fail
  refine (toDisk_calls _ hcnt db).mono ?_
  rintro e wc ⟨vc, rfl, oc, hc⟩
  have s2 := hc.size
  have B0 := (hc.block w.heap.size (by omega) (by omega)).trans B0
  have hC := hB.trans hc
  clear hc hB x0 x1 db
  go_wp2_with fail
  refine (specValid_calls _ (oc.view hfit)).mono ?_
  rintro e wd ⟨rfl, hd⟩
  have s3 := hd.size
  have B0 := (hd.block w.heap.size (by omega) (by omega)).trans B0
  have hD := hC.trans hd
  have dd := d0.chg hD (by omega)
  clear hd hC oc
  obtain ⟨x0, x1, _, _⟩ := two_cells B0
  go_wp2_with fail
  refine (toDisk_calls _ hcnt dd).mono ?_
  rintro e we ⟨vx, rfl, ox, he⟩
  obtain ⟨a1, l1, c1, a1', l1', c1', rfl⟩ := ox.agg
  have s4 := he.size
  have B0 := (he.block w.heap.size (by omega) (by omega)).trans B0
  have hE := hD.trans he
  clear he hD dd x0 x1
  have B1 := heap_new we (.cells #[.slice a1 l1 c1, .slice a1' l1' c1'] 30)
  have vx := ox.view hfit
  go_wp2_with fail
  refine (implValid_calls _ (vx.chg (Chg.alloc (Chg.refl 0 0 we) _) (by omega))).mono ?_
  rintro e wf ⟨rfl, hf⟩
  have s5 : we.heap.size < wf.heap.size := by have := hf.size; simp at this; omega
  have B0 := (hf.block w.heap.size (by simp; omega) (by omega)).trans ((Below.heap_alloc _ _ _ (by omega)).trans B0)
  have B1 := (hf.block we.heap.size (by simp) (by omega)).trans B1
  have hF := (hE.alloc _).trans hf
  have vx := vx.chg ((Chg.alloc (Chg.refl 0 0 we) _).trans hf) (by omega)
  have df := d0.chg hF (by omega)
  clear hf hE ox d0
  have hne : (validB d != validB d) = false := by simp
  obtain ⟨x0, x1, _, _⟩ := two_cells B0
  obtain ⟨y0, y1, _, _⟩ := two_cells B1
  go_wp2
  go_region_with (first
    | (go_at_call 6; refine (toDisk_calls _ hcnt (df.chg (Chg.drew (Chg.refl 0 0 _)) (by omega))).mono ?_; rintro e wg ⟨vg, rfl, og, hg⟩; obtain ⟨z0, z1, _, _⟩ := two_cells ((hg.block we.heap.size (by exact s5) (by omega)).trans B1))
    | (go_at_call 8; refine (eqDisk_calls _ (vx.chg ((Chg.drew (Chg.refl 0 0 _)).trans hg) (by omega)) (og.view hfit)).mono ?_; rintro e wh ⟨rfl, hh⟩))
  all_goals
    have hH : Chg 0 0 w wh := (hF.drew.trans hg).trans hh
    clear hh hg hF
    go_wp2
    go_ret
    exact ⟨rfl, hH.below (by omega)⟩

set_option maxRecDepth 100000 in
theorem lawValidDisk_lifted (os : Os) (started : os.Started) (H : Type) (enc : TypeId × Value → H) :
    ReturnsInHanded {} Try.checked os 3 .any (Rows.fnExactValidDiskSpec.pre6 enc Try.prog Try.f3 Rows.fnExactValidDiskRow.domain false) (Rows.fnExactValidDiskSpec.post enc Try.prog Try.f3 false true false false) := by
  refine returnsInHanded_of_change (C := Try.checked) own started (by kernel_rfl) Try.func3
    (ChangeSpec.witness6 (enc := enc) (C := Try.checked) false ⟨#[], #[.agg #[.slice none 0 0, .slice none 0 0]], []⟩ 8 (by kernel_rfl) (by kernel_rfl) (by kernel_rfl) (by kernel_rfl)) ?_
  intro W base args ds gs before hval0 hW hcnd _
  have hval : ∀ (j : Nat) t v, Try.f3.params[j]? = some t → args[j]? = some v → Value.okWide Try.prog W .any base t v := hval0
  have hW' := hW
  obtain ⟨p, q, hA0, hV, rfl, hfz, hnd⟩ := hW
  have hA : DataW.TrodAll enc Try.prog W 0 (fun _ => true) true Try.f3.params.toList args.toList ds p := hA0
  rw [Try.params3] at hA hval
  obtain ⟨v0, vs0, d0, ds0, p0, q0, hargs, rfl, rfl, h0, r0⟩ := trodAll_cons hA
  obtain ⟨rfl, rfl, rfl⟩ := trodAll_nil r0
  obtain rfl : args = #[v0] := by cases args; simp_all
  obtain ⟨rfl, rfl⟩ := trodVars_none hV
  have k0 := h0
  have lt0 : ∀ x ∈ p0, x.block < W.heap.size := by obtain ⟨m, hm⟩ := k0; exact DataW.trod_lt m _ _ _ hm
  obtain ⟨dd, w0⟩ := dview_of_trod (hval 0 25 v0 rfl rfl) h0
  clear hA0 hval0
  refine (lawValidDisk_walk W w0).mono fun e W' ⟨he, bel⟩ => ?_
  subst he
  exact ⟨_, rfl, _, _, _, [], _, [], hW', trodAll_mk1 (shut_bool Try.underlying4 _), (trodAll_cons_mk (Below.trod laidOut (by kernel_rfl) (of_decide_eq_true (by kernel_rfl)) k0 bel lt0) trodAll_mk0), rfl, bel.frame _, fun h => by cases h⟩

theorem fnExactValidDisk_holds : Rows.FnExactValidDiskSaid :=
  OpenClaim.holds_of_wide 3 Try.f3 rfl rfl rfl rfl rfl rfl rfl ⟨rfl, rfl, rfl, rfl, rfl⟩ rfl rfl rfl rfl rfl (by kernel_rfl) Try.func3 (by kernel_rfl)
    (of_decide_eq_true (by kernel_rfl)) (by unfold Func.isWrapper; first | (rw [if_pos (by decide +kernel)]; kernel_rfl) | (rw [if_neg (by decide +kernel)]; exact ⟨rfl, rfl⟩))
    (fun os started H enc _ => lawValidDisk_lifted os started H enc)
#print axioms fnExactValidDisk_holds
end Go.Proofs.Ytnjlcmknfcehiaa

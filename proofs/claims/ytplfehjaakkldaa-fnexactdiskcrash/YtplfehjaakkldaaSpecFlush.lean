/- DiskFlush of the model. -/
import Derived.Test.YtplfehjaakkldaaSpecPut
namespace Go.Proofs.Ytplfehjaakkldaa
open Go.RowKit

set_option maxRecDepth 20000 in
set_option maxHeartbeats 2000000 in
theorem specFlush_calls (w : World) {lo hi : Nat} {a : Value} {d : Dsk} (h1 : DView w lo hi a d) (hlo : hi ≤ w.heap.size) (hf : d.dur.length ≤ 1048576) :
    Calls Try.prog 19 #[a] w fun e w' => ∃ v, e = .returned v ∧ OwnD w' w.heap.size w'.heap.size 55 5 v (flushD d) ∧ Chg 0 0 w w' := by
  have d0 := h1
  obtain ⟨dv, pv, rfl, v1, p1⟩ := h1
  have v0 := v1
  have p0 := p1
  obtain ⟨ao, cap, rfl, _, _, _⟩ := v1
  obtain ⟨po, pcap, rfl, _, _, hpc⟩ := p1
  obtain ⟨z1, z2, z3⟩ := alloc2 w (.cells #[.slice ao d.dur.length cap, .slice po d.pend.length pcap] 29) (.cells #[.slice none 0 0, .slice none 0 0] 29)
  have hA : Chg 0 0 w ((w.alloc (.cells #[.slice ao d.dur.length cap, .slice po d.pend.length pcap] 29)).alloc (.cells #[.slice none 0 0, .slice none 0 0] 29)) := (Chg.alloc (Chg.refl 0 0 w) _).alloc _
  go_enter Try.func19, Try.ntmps19
  go_wp2_with fail
  generalize (w.alloc (.cells #[.slice ao d.dur.length cap, .slice po d.pend.length pcap] 29)).alloc (.cells #[.slice none 0 0, .slice none 0 0] 29) = wa at *
  refine (specValid_calls _ (d0.chg hA (by omega))).mono ?_
  rintro e wb ⟨rfl, hb⟩
  have sb := hb.size
  have B0 := (hb.block w.heap.size (by omega) (by omega)).trans z2
  have B1 := (hb.block (w.heap.size + 1) (by omega) (by omega)).trans z3
  have hB := hA.trans hb
  clear hA hb z2 z3
  obtain ⟨x0, x1, _, _⟩ := two_cells B0
  obtain ⟨y0, y1, yf0, yf1⟩ := two_cells B1
  cases hV : validB d with
  | false =>
    have HC : Hid (Chg 0 0 w ((wb.setCell ⟨w.heap.size + 1, 0, none⟩ (.slice none 0 0)).setCell ⟨w.heap.size + 1, 1, none⟩ (.slice none 0 0))) := hB.step (Chg.set2 _ _ _ _) (by omega)
    have HF : Hid (flushD d = Dsk.none) := by show _ = _; unfold flushD; rw [if_neg (by rw [hV]; simp)]
    clear B0 B1 hB d0 v0 p0 hpc hV
    go_wp2
    refine bodyPost_ret (v := .agg #[.slice none 0 0, .slice none 0 0]) (by simp [results, Try.results19, go_sem, y0, y1]) rfl ⟨_, rfl, ?_, HC.out⟩
    rw [HF.out]; exact OwnD.none _ _ _ _ _
  | true =>
    have hVal := (validB_iff d).1 hV
    have HF : Hid (flushD d = setD (fun _ => true) d) := by show _ = _; unfold flushD; rw [if_pos hV]
    have vb := v0.chg hB (by omega)
    clear hV
    go_wp2_with fail
    refine (l1Copy_calls _ hf vb).mono ?_
    rintro e wc ⟨vc, rfl, oc, hc⟩
    obtain ⟨g, gcap, rfl⟩ := oc.slice_of (by have := hVal.2.1; omega)
    have gb := oc.lt g rfl
    have sc := hc.size
    have B0 := (hc.block w.heap.size (by omega) (by omega)).trans B0
    have B1 := (hc.block (w.heap.size + 1) (by omega) (by omega)).trans B1
    have hC := hB.trans hc
    have C1 : Chg 0 0 wc (wc.alloc (.cells #[.slice (some ⟨g, 0, none⟩) d.dur.length gcap, .slice none 0 0] 29)) := Chg.alloc (Chg.refl 0 0 wc) _
    have B2 := heap_new wc (.cells #[.slice (some ⟨g, 0, none⟩) d.dur.length gcap, .slice none 0 0] 29)
    have sD : (wc.alloc (.cells #[.slice (some ⟨g, 0, none⟩) d.dur.length gcap, .slice none 0 0] 29)).heap.size = wc.heap.size + 1 := by simp
    clear hB hc x0 x1 y0 y1 yf0 yf1 vb v0 d0 p0
    go_wp2
    generalize wc.alloc (.cells #[.slice (some ⟨g, 0, none⟩) d.dur.length gcap, .slice none 0 0] 29) = wd at *
    have B0 := (C1.block w.heap.size (by omega) (by omega)).trans B0
    have B1 := (C1.block (w.heap.size + 1) (by omega) (by omega)).trans B1
    have hD := hC.trans C1
    have O0 : Hid (OwnB wd w.heap.size 5 (.slice (some ⟨g, 0, none⟩) d.dur.length gcap) d.dur) := (oc.chg C1 (by intro g' _; omega)).base (fun g' hg' => by cases hg'; show w.heap.size ≤ g; omega)
    have HP : Hid (∀ k, k < d.pend.length → ∃ pb poff dao dcap, po = some ⟨pb, poff, none⟩ ∧ pb < w.heap.size ∧ wd.cell? ⟨pb, poff + k * 2, none⟩ = some (.int .i64 (d.pend.getD k (0, [])).1) ∧ wd.cell? ⟨pb, poff + k * 2 + 1, none⟩ = some (.slice dao (d.pend.getD k (0, [])).2.length dcap) ∧ View wd lo hi .u8 (.slice dao (d.pend.getD k (0, [])).2.length dcap) (d.pend.getD k (0, [])).2) := by
      intro k hk
      rcases hpc with e | ⟨pb, poff, e, _, _, h⟩
      · rw [e] at hk; simp at hk
      · obtain ⟨dv, c1, c2, vw⟩ := h k hk
        have vw' := vw
        obtain ⟨dao, dcap, rfl, _⟩ := vw'
        exact ⟨pb, poff, dao, dcap, e, lt_of_cell c1, hD.cell c1 (by omega), hD.cell c2 (by omega), vw.chg hD (by omega)⟩
    have HVal : Hid (Valid d) := hVal
    have hm := hVal.2.2.2.1
    clear hpc hC C1 oc hVal
    obtain ⟨x0, x1, _, _⟩ := two_cells B0
    obtain ⟨u0, u1, _, _⟩ := two_cells B2
    go_loopw [4] (fun i wr => ∃ k : Nat, k ≤ d.pend.length ∧ i = .int .i64 k ∧ OwnB wr w.heap.size 5 (.slice (some ⟨g, 0, none⟩) d.dur.length gcap) (stl (fun _ => true) d.pend d.dur k) ∧ Chg g (g + 1) wd wr) (fun i _ => d.pend.length - (intOf i).toNat)
    case atStart => exact ⟨0, Nat.zero_le _, rfl, O0.out, Chg.refl _ _ _⟩
    case round =>
      obtain ⟨k, hk, rfl, hown, hcw⟩ := hrel
      have x1r := hcw.cell x1 (by omega)
      have u0r := hcw.cell u0 (by omega)
      have u1r := hcw.cell u1 (by omega)
      clear x1 u0 u1
      have szr := hcw.size
      by_cases hlt : k < d.pend.length
      · obtain ⟨pb, poff, dao, dcap, rfl, hpb, c1w, c2w, vww⟩ := HP.out k hlt
        obtain ⟨hq0, hq1, hx64⟩ := HVal.out.2.2.2.2 k hlt
        have hmod := HVal.out.1
        have hlenk := stl_length (fun _ => true) d HVal.out k hk
        have hstep : stl (fun _ => true) d.pend d.dur (k + 1) = splice (stl (fun _ => true) d.pend d.dur k) ((d.pend.getD k (0, [])).1.toNat * 64) (d.pend.getD k (0, [])).2 := by
          conv => lhs; unfold stl
          rw [if_pos rfl]
        have c1 := hcw.cell c1w (by omega)
        have c2 := hcw.cell c2w (by omega)
        have vw := vww.chg hcw (by omega)
        clear c1w c2w vww
        have Hstep : Hid (stl (fun _ => true) d.pend d.dur (k + 1) = splice (stl (fun _ => true) d.pend d.dur k) ((d.pend.getD k (0, [])).1.toNat * 64) (d.pend.getD k (0, [])).2) := hstep
        clear hstep
        generalize d.pend.getD k (0, []) = pr at *
        obtain ⟨q, xs⟩ := pr
        simp only at hq0 hq1 hx64 c1 c2 vw Hstep
        obtain ⟨qn, rfl⟩ := Int.eq_ofNat_of_zero_le hq0
        rw [Int.toNat_natCast] at Hstep
        generalize hX : stl (fun _ => true) d.pend d.dur k = X at *
        rw [← hlenk] at hown u0r
        have Hl : Hid (X.length = d.dur.length) := hlenk
        have hX2 : X.length ≤ 1048576 := by omega
        have hX3 : qn * 64 + 64 ≤ X.length := by omega
        have hgd : g < lo ∨ hi ≤ g := by omega
        have Hown : Hid (OwnB wr w.heap.size 5 (.slice (some ⟨g, 0, none⟩) X.length gcap) X) := hown
        have Hvw : Hid (View wr lo hi .u8 (.slice dao xs.length dcap) xs) := vw
        have Hx : Hid (xs.length = 64) := hx64
        have Hcw : Hid (Chg g (g + 1) wd wr) := hcw
        clear hlenk hown vw hX hx64 hcw HP HVal O0
        have hik : (k : Int) < (d.pend.length : Int) := by omega
        go_wp2
        go_region_held3 (fun w' => w'.cell? ⟨wc.heap.size, 0, none⟩ = some (.slice (some ⟨g, 0, none⟩) X.length gcap) ∧ w'.cell? ⟨w.heap.size, 1, none⟩ = some (.slice (some ⟨pb, poff, none⟩) d.pend.length pcap) ∧ w'.cell? ⟨pb, poff + k * 2, none⟩ = some (.int .i64 (qn : Int)) ∧ w'.cell? ⟨pb, poff + k * 2 + 1, none⟩ = some (.slice dao xs.length dcap))
          (first | exact ⟨u0r, x1r, c1, c2⟩ | exact ⟨C2.cell (w := wr.drew) u0r (by omega), C2.cell (w := wr.drew) x1r (by omega), C2.cell (w := wr.drew) c1 (by omega), C2.cell (w := wr.drew) c2 (by omega)⟩)
          ((go_at_call 56; refine (l1Put_calls _ X xs qn (by exact Hown.out) (by exact Hvw.out) Hx.out hX3 hX2 hgd).mono ?_; rintro e w2 ⟨rfl, ho, C2⟩))
        have R1 : Hid (OwnB w2 w.heap.size 5 (.slice (some ⟨g, 0, none⟩) d.dur.length gcap) (stl (fun _ => true) d.pend d.dur (k + 1))) := by
          rw [Hstep.out, ← Hl.out]; exact ho
        have R2 : Chg g (g + 1) wd w2 := Hcw.out.drew.trans C2
        clear ho C2 Hown Hvw Hcw Hstep c1 c2 u0r u1r x1r
        go_wp2
        go_roundw
        case rel => exact ⟨k + 1, by omega, by go_num, R1.out, R2⟩
        case measure => simp [intOf]; omega
      · obtain rfl : k = d.pend.length := by omega
        have hl := stl_length (fun _ => true) d HVal.out d.pend.length (Nat.le_refl _)
        have B1r := (hcw.block (w.heap.size + 1) (by omega) (by omega)).trans B1
        obtain ⟨y0, y1, yf0, yf1⟩ := two_cells B1r
        have hgs : g < wr.heap.size := by omega
        have HO : Hid (OwnD ((wr.setCell ⟨w.heap.size + 1, 0, none⟩ (.slice (some ⟨g, 0, none⟩) d.dur.length gcap)).setCell ⟨w.heap.size + 1, 1, none⟩ (.slice none 0 0)) w.heap.size wr.heap.size 55 5 (.agg #[.slice (some ⟨g, 0, none⟩) d.dur.length gcap, .slice none 0 0]) (flushD d)) := by
          rw [HF.out]
          have n1 : (Value.slice (some ⟨g, 0, none⟩) d.dur.length gcap).ownBlock ≠ some (w.heap.size + 1) := by simp [Value.ownBlock]; omega
          refine ⟨_, _, [], _, rfl, (hown.set (p := ⟨w.heap.size + 1, 0, none⟩) n1 _).set (p := ⟨w.heap.size + 1, 1, none⟩) n1 _, OwnPx.nil _ _ _ _, by simp [setD], ?_, by simp [Value.ownBlock], by simp [setD]⟩
          intro g' hg'
          cases hg'
          exact hgs
        have HC : Hid (Chg 0 0 w ((wr.setCell ⟨w.heap.size + 1, 0, none⟩ (.slice (some ⟨g, 0, none⟩) d.dur.length gcap)).setCell ⟨w.heap.size + 1, 1, none⟩ (.slice none 0 0))) := (hD.step hcw (by omega)).step (Chg.set2 _ _ _ _) (by omega)
        have HS : Hid (((wr.setCell ⟨w.heap.size + 1, 0, none⟩ (.slice (some ⟨g, 0, none⟩) d.dur.length gcap)).setCell ⟨w.heap.size + 1, 1, none⟩ (.slice none 0 0)).heap.size = wr.heap.size) := by show _ = _; simp [World.setCell]
        clear hown hcw HP HVal O0 hl B1r HF B0 B1 B2
        go_wp2
        refine bodyPost_ret (v := .agg #[.slice (some ⟨g, 0, none⟩) d.dur.length gcap, .slice none 0 0]) (by simp [results, Try.results19, go_sem, y0, y1]) rfl ⟨_, rfl, ?_, HC.out⟩
        rw [HS.out]; exact HO.out
end Go.Proofs.Ytplfehjaakkldaa

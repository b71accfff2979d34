/- DiskCrash of the model. -/
import Derived.Test.YtplfehjaakkldaaCrash
import Derived.Test.YtplfehjaakkldaaSpecFlush
namespace Go.Proofs.Ytplfehjaakkldaa
open Go.RowKit

theorem stl_stop (keep : List Int) (ps : List Wr) (dur : List Int) (k : Nat) (h : keep.length ≤ k) : ∀ m, k ≤ m → stl (kp keep) ps dur m = stl (kp keep) ps dur k := by
  intro m hm
  induction m with
  | zero => obtain rfl : k = 0 := by omega
            rfl
  | succ m ih =>
    by_cases e : k = m + 1
    · rw [e]
    · rw [stl_skip (kp keep) ps dur m (by simp [kp]; intro h'; omega)]
      exact ih (by omega)

set_option maxRecDepth 20000 in
set_option maxHeartbeats 2000000 in
theorem specCrash_calls (w : World) {lo hi : Nat} {a : Value} {d : Dsk} {kv : Value} {klo khi : Nat} (keep : List Int) (h1 : DView w lo hi a d) (hk : View w klo khi .i64 kv keep) (hklo : khi ≤ w.heap.size) (hlo : hi ≤ w.heap.size) (hf : d.dur.length ≤ 1048576) :
    Calls Try.prog 24 #[a, kv] w fun e w' => ∃ v, e = .returned v ∧ OwnD w' w.heap.size w'.heap.size 55 5 v (crashD d keep) ∧ Chg 0 0 w w' := by
  have d0 := h1
  obtain ⟨dv, pv, rfl, v1, p1⟩ := h1
  have v0 := v1
  have p0 := p1
  obtain ⟨ao, cap, rfl, _, _, _⟩ := v1
  obtain ⟨po, pcap, rfl, _, _, hpc⟩ := p1
  obtain ⟨ko, kcap, rfl, hkl, _, hkc⟩ := hk
  have HKC : Hid (∀ k, k < keep.length → ∃ kb kof, ko = some ⟨kb, kof, none⟩ ∧ kb < w.heap.size ∧ w.cell? ⟨kb, kof + k, none⟩ = some (.int .i64 (keep.getD k 0))) := by
    intro k hk
    rcases hkc with e | ⟨kb, kof, e, _, h5, h⟩
    · rw [e] at hk; simp at hk
    · exact ⟨kb, kof, e, by omega, h k hk⟩
  clear hkc
  obtain ⟨z1, z2, z3⟩ := alloc2 w (.cells #[.slice ao d.dur.length cap, .slice po d.pend.length pcap] 29) (.cells #[.slice none 0 0, .slice none 0 0] 29)
  have hA : Chg 0 0 w ((w.alloc (.cells #[.slice ao d.dur.length cap, .slice po d.pend.length pcap] 29)).alloc (.cells #[.slice none 0 0, .slice none 0 0] 29)) := (Chg.alloc (Chg.refl 0 0 w) _).alloc _
  go_enter Try.func24, Try.ntmps24
  go_wp2_with fail
  generalize (w.alloc (.cells #[.slice ao d.dur.length cap, .slice po d.pend.length pcap] 29)).alloc (.cells #[.slice none 0 0, .slice none 0 0] 29) = wa at *
  refine (specValid_calls _ (d0.chg hA (by omega))).mono ?_
  rintro e wb ⟨rfl, hb⟩
  have sb := hb.size
  have B0 := (hb.block w.heap.size (by omega) (by omega)).trans z2
  have B1 := (hb.block (w.heap.size + 1) (by omega) (by omega)).trans z3
  have hB := hA.trans hb
  clear hA hb z2 z3
  obtain ⟨x0, x1, _, _⟩ := two_cells B0
  obtain ⟨y0, y1, yf0, yf1⟩ := two_cells B1
  cases hV : validB d with
  | false =>
    have HC : Hid (Chg 0 0 w ((wb.setCell ⟨w.heap.size + 1, 0, none⟩ (.slice none 0 0)).setCell ⟨w.heap.size + 1, 1, none⟩ (.slice none 0 0))) := hB.step (Chg.set2 _ _ _ _) (by omega)
    have HF : Hid (crashD d keep = Dsk.none) := by show _ = _; unfold crashD; rw [if_neg (by rw [hV]; simp)]
    clear B0 B1 hB d0 v0 p0 hpc hV
    go_wp2
    refine bodyPost_ret (v := .agg #[.slice none 0 0, .slice none 0 0]) (by simp [results, Try.results24, go_sem, y0, y1]) rfl ⟨_, rfl, ?_, HC.out⟩
    rw [HF.out]; exact OwnD.none _ _ _ _ _
  | true =>
    have hVal := (validB_iff d).1 hV
    by_cases hkn : keep.length ≤ 600
    case neg =>
      have HC : Hid (Chg 0 0 w ((wb.setCell ⟨w.heap.size + 1, 0, none⟩ (.slice none 0 0)).setCell ⟨w.heap.size + 1, 1, none⟩ (.slice none 0 0))) := hB.step (Chg.set2 _ _ _ _) (by omega)
      have HF : Hid (crashD d keep = Dsk.none) := by show _ = _; unfold crashD; rw [if_neg (fun h => hkn h.2)]
      clear B0 B1 hB d0 v0 p0 hpc hV hVal
      go_wp2
      refine bodyPost_ret (v := .agg #[.slice none 0 0, .slice none 0 0]) (by simp [results, Try.results24, go_sem, y0, y1]) rfl ⟨_, rfl, ?_, HC.out⟩
      rw [HF.out]; exact OwnD.none _ _ _ _ _
    have HF : Hid (crashD d keep = setD (kp keep) d) := by show _ = _; unfold crashD; rw [if_pos ⟨hV, hkn⟩]
    have vb := v0.chg hB (by omega)
    clear hV
    go_wp2_with fail
    refine (l1Copy_calls _ hf vb).mono ?_
    rintro e wc ⟨vc, rfl, oc, hc⟩
    obtain ⟨g, gcap, rfl⟩ := oc.slice_of (by have := hVal.2.1; omega)
    have gb := oc.lt g rfl
    have sc := hc.size
    have B0 := (hc.block w.heap.size (by omega) (by omega)).trans B0
    have B1 := (hc.block (w.heap.size + 1) (by omega) (by omega)).trans B1
    have hC := hB.trans hc
    have C1 : Chg 0 0 wc (wc.alloc (.cells #[.slice (some ⟨g, 0, none⟩) d.dur.length gcap, .slice none 0 0] 29)) := Chg.alloc (Chg.refl 0 0 wc) _
    have B2 := heap_new wc (.cells #[.slice (some ⟨g, 0, none⟩) d.dur.length gcap, .slice none 0 0] 29)
    have sD : (wc.alloc (.cells #[.slice (some ⟨g, 0, none⟩) d.dur.length gcap, .slice none 0 0] 29)).heap.size = wc.heap.size + 1 := by simp
    clear hB hc x0 x1 y0 y1 yf0 yf1 vb v0 d0 p0
    go_wp2
    generalize wc.alloc (.cells #[.slice (some ⟨g, 0, none⟩) d.dur.length gcap, .slice none 0 0] 29) = wd at *
    have B0 := (C1.block w.heap.size (by omega) (by omega)).trans B0
    have B1 := (C1.block (w.heap.size + 1) (by omega) (by omega)).trans B1
    have hD := hC.trans C1
    have O0 : Hid (OwnB wd w.heap.size 5 (.slice (some ⟨g, 0, none⟩) d.dur.length gcap) d.dur) := (oc.chg C1 (by intro g' _; omega)).base (fun g' hg' => by cases hg'; show w.heap.size ≤ g; omega)
    have HP : Hid (∀ k, k < d.pend.length → ∃ pb poff dao dcap, po = some ⟨pb, poff, none⟩ ∧ pb < w.heap.size ∧ wd.cell? ⟨pb, poff + k * 2, none⟩ = some (.int .i64 (d.pend.getD k (0, [])).1) ∧ wd.cell? ⟨pb, poff + k * 2 + 1, none⟩ = some (.slice dao (d.pend.getD k (0, [])).2.length dcap) ∧ View wd lo hi .u8 (.slice dao (d.pend.getD k (0, [])).2.length dcap) (d.pend.getD k (0, [])).2) := by
      intro k hk
      rcases hpc with e | ⟨pb, poff, e, _, _, h⟩
      · rw [e] at hk; simp at hk
      · obtain ⟨dv, c1, c2, vw⟩ := h k hk
        have vw' := vw
        obtain ⟨dao, dcap, rfl, _⟩ := vw'
        exact ⟨pb, poff, dao, dcap, e, lt_of_cell c1, hD.cell c1 (by omega), hD.cell c2 (by omega), vw.chg hD (by omega)⟩
    have HKD : Hid (∀ k, k < keep.length → ∃ kb kof, ko = some ⟨kb, kof, none⟩ ∧ kb < w.heap.size ∧ wd.cell? ⟨kb, kof + k, none⟩ = some (.int .i64 (keep.getD k 0))) := by
      intro k hk
      obtain ⟨kb, kof, e, h5, h⟩ := HKC.out k hk
      exact ⟨kb, kof, e, h5, hD.cell h (by omega)⟩
    have HVal : Hid (Valid d) := hVal
    have hm := hVal.2.2.2.1
    clear hpc hC C1 oc hVal
    obtain ⟨x0, x1, _, _⟩ := two_cells B0
    obtain ⟨u0, u1, _, _⟩ := two_cells B2
    go_loopw [6] (fun i wr => ∃ k : Nat, k ≤ d.pend.length ∧ i = .int .i64 k ∧ OwnB wr w.heap.size 5 (.slice (some ⟨g, 0, none⟩) d.dur.length gcap) (stl (kp keep) d.pend d.dur k) ∧ Chg g (g + 1) wd wr) (fun i _ => d.pend.length - (intOf i).toNat)
    case atStart => exact ⟨0, Nat.zero_le _, rfl, O0.out, Chg.refl _ _ _⟩
    case round =>
      obtain ⟨k, hk, rfl, hown, hcw⟩ := hrel
      have x1r := hcw.cell x1 (by omega)
      have u0r := hcw.cell u0 (by omega)
      have u1r := hcw.cell u1 (by omega)
      clear x1 u0 u1
      have szr := hcw.size
      by_cases hlt0 : k < d.pend.length ∧ k < keep.length
      · obtain ⟨hlt, hltk⟩ := hlt0
        obtain ⟨kb, kof, rfl, hkb, ck0⟩ := HKD.out k hltk
        have ck := hcw.cell ck0 (by omega)
        have hkp : kp keep k = (keep.getD k 0 != 0) := by simp [kp, hltk]
        obtain ⟨pb, poff, dao, dcap, rfl, hpb, c1w, c2w, vww⟩ := HP.out k hlt
        obtain ⟨hq0, hq1, hx64⟩ := HVal.out.2.2.2.2 k hlt
        have hmod := HVal.out.1
        have hlenk := stl_length (kp keep) d HVal.out k hk
        by_cases hz : keep.getD k 0 = 0
        case pos =>
          have R1 : Hid (OwnB wr w.heap.size 5 (.slice (some ⟨g, 0, none⟩) d.dur.length gcap) (stl (kp keep) d.pend d.dur (k + 1))) := by
            rw [stl_skip (kp keep) d.pend d.dur k (by rw [hkp, hz]; rfl)]; exact hown
          have hz' : (keep.getD k 0 != 0) = false := by rw [hz]; rfl
          have hik : (k : Int) < (d.pend.length : Int) := by omega
          have hik2 : (k : Int) < (keep.length : Int) := by omega
          generalize keep.getD k 0 = kx at *
          clear hz hown HP HVal O0 HKD HKC c1w c2w vww ck0 hkp hlenk
          go_wp2
          go_roundw
          case rel => exact ⟨k + 1, by omega, by go_num, R1.out, hcw⟩
          case measure => simp [intOf]; omega
        have hzb : (keep.getD k 0 != 0) = true := by rw [bne_iff_ne]; exact hz
        have hstep : stl (kp keep) d.pend d.dur (k + 1) = splice (stl (kp keep) d.pend d.dur k) ((d.pend.getD k (0, [])).1.toNat * 64) (d.pend.getD k (0, [])).2 := by
          conv => lhs; unfold stl
          rw [if_pos (by rw [hkp, hzb])]
        have hik2 : (k : Int) < (keep.length : Int) := by omega
        clear hz hkp ck0
        generalize keep.getD k 0 = kx at *
        have c1 := hcw.cell c1w (by omega)
        have c2 := hcw.cell c2w (by omega)
        have vw := vww.chg hcw (by omega)
        clear c1w c2w vww
        have Hstep : Hid (stl (kp keep) d.pend d.dur (k + 1) = splice (stl (kp keep) d.pend d.dur k) ((d.pend.getD k (0, [])).1.toNat * 64) (d.pend.getD k (0, [])).2) := hstep
        clear hstep
        generalize d.pend.getD k (0, []) = pr at *
        obtain ⟨q, xs⟩ := pr
        simp only at hq0 hq1 hx64 c1 c2 vw Hstep
        obtain ⟨qn, rfl⟩ := Int.eq_ofNat_of_zero_le hq0
        rw [Int.toNat_natCast] at Hstep
        generalize hX : stl (kp keep) d.pend d.dur k = X at *
        rw [← hlenk] at hown u0r
        have Hl : Hid (X.length = d.dur.length) := hlenk
        have hX2 : X.length ≤ 1048576 := by omega
        have hX3 : qn * 64 + 64 ≤ X.length := by omega
        have hgd : g < lo ∨ hi ≤ g := by omega
        have Hown : Hid (OwnB wr w.heap.size 5 (.slice (some ⟨g, 0, none⟩) X.length gcap) X) := hown
        have Hvw : Hid (View wr lo hi .u8 (.slice dao xs.length dcap) xs) := vw
        have Hx : Hid (xs.length = 64) := hx64
        have Hcw : Hid (Chg g (g + 1) wd wr) := hcw
        clear hlenk hown vw hX hx64 hcw HP HVal O0 HKD HKC
        have hik : (k : Int) < (d.pend.length : Int) := by omega
        go_wp2
        clear ck hzb
        go_region_held3 (fun w' => w'.cell? ⟨wc.heap.size, 0, none⟩ = some (.slice (some ⟨g, 0, none⟩) X.length gcap) ∧ w'.cell? ⟨w.heap.size, 1, none⟩ = some (.slice (some ⟨pb, poff, none⟩) d.pend.length pcap) ∧ w'.cell? ⟨pb, poff + k * 2, none⟩ = some (.int .i64 (qn : Int)) ∧ w'.cell? ⟨pb, poff + k * 2 + 1, none⟩ = some (.slice dao xs.length dcap))
          (first | exact ⟨u0r, x1r, c1, c2⟩ | exact ⟨C2.cell (w := wr.drew) u0r (by omega), C2.cell (w := wr.drew) x1r (by omega), C2.cell (w := wr.drew) c1 (by omega), C2.cell (w := wr.drew) c2 (by omega)⟩)
          ((go_at_call 56; refine (l1Put_calls _ X xs qn (by exact Hown.out) (by exact Hvw.out) Hx.out hX3 hX2 hgd).mono ?_; rintro e w2 ⟨rfl, ho, C2⟩))
        have R1 : Hid (OwnB w2 w.heap.size 5 (.slice (some ⟨g, 0, none⟩) d.dur.length gcap) (stl (kp keep) d.pend d.dur (k + 1))) := by
          rw [Hstep.out, ← Hl.out]; exact ho
        have R2 : Chg g (g + 1) wd w2 := Hcw.out.drew.trans C2
        clear ho C2 Hown Hvw Hcw Hstep c1 c2 u0r u1r x1r
        go_wp2
        go_roundw
        case rel => exact ⟨k + 1, by omega, by go_num, R1.out, R2⟩
        case measure => simp [intOf]; omega
      · have hstop : stl (kp keep) d.pend d.dur d.pend.length = stl (kp keep) d.pend d.dur k := by
          by_cases hkm : k < d.pend.length
          · exact stl_stop keep d.pend d.dur k (by omega) d.pend.length (by omega)
          · obtain rfl : k = d.pend.length := by omega
            rfl
        have hown : OwnB wr w.heap.size 5 (.slice (some ⟨g, 0, none⟩) d.dur.length gcap) (stl (kp keep) d.pend d.dur d.pend.length) := by rw [hstop]; exact hown
        have B1r := (hcw.block (w.heap.size + 1) (by omega) (by omega)).trans B1
        obtain ⟨y0, y1, yf0, yf1⟩ := two_cells B1r
        have hgs : g < wr.heap.size := by omega
        have HO : Hid (OwnD ((wr.setCell ⟨w.heap.size + 1, 0, none⟩ (.slice (some ⟨g, 0, none⟩) d.dur.length gcap)).setCell ⟨w.heap.size + 1, 1, none⟩ (.slice none 0 0)) w.heap.size wr.heap.size 55 5 (.agg #[.slice (some ⟨g, 0, none⟩) d.dur.length gcap, .slice none 0 0]) (crashD d keep)) := by
          rw [HF.out]
          have n1 : (Value.slice (some ⟨g, 0, none⟩) d.dur.length gcap).ownBlock ≠ some (w.heap.size + 1) := by simp [Value.ownBlock]; omega
          refine ⟨_, _, [], _, rfl, (hown.set (p := ⟨w.heap.size + 1, 0, none⟩) n1 _).set (p := ⟨w.heap.size + 1, 1, none⟩) n1 _, OwnPx.nil _ _ _ _, by simp [setD], ?_, by simp [Value.ownBlock], by simp [setD]⟩
          intro g' hg'
          cases hg'
          exact hgs
        have HC : Hid (Chg 0 0 w ((wr.setCell ⟨w.heap.size + 1, 0, none⟩ (.slice (some ⟨g, 0, none⟩) d.dur.length gcap)).setCell ⟨w.heap.size + 1, 1, none⟩ (.slice none 0 0))) := (hD.step hcw (by omega)).step (Chg.set2 _ _ _ _) (by omega)
        have HS : Hid (((wr.setCell ⟨w.heap.size + 1, 0, none⟩ (.slice (some ⟨g, 0, none⟩) d.dur.length gcap)).setCell ⟨w.heap.size + 1, 1, none⟩ (.slice none 0 0)).heap.size = wr.heap.size) := by show _ = _; simp [World.setCell]
        clear hown hcw HP HVal O0 B1r HF B0 B1 B2 HKD HKC hstop
        have hdd : (decide ((k : Int) < (d.pend.length : Int)) && decide ((k : Int) < (keep.length : Int))) = false := by
          rw [Bool.and_eq_false_iff]
          by_cases h : k < d.pend.length
          · right; simp; omega
          · left; simp; omega
        by_cases hkm : k < d.pend.length
        · have hd1 : decide ((k : Int) < (d.pend.length : Int)) = true := by simp; omega
          have hd2 : (keep.length : Int) ≤ (k : Int) := by omega
          have hd3 : (k : Int) < (d.pend.length : Int) := by omega
          go_wp2
          refine bodyPost_ret (v := .agg #[.slice (some ⟨g, 0, none⟩) d.dur.length gcap, .slice none 0 0]) (by simp [results, Try.results24, go_sem, y0, y1]) rfl ⟨_, rfl, ?_, HC.out⟩
          rw [HS.out]; exact HO.out
        have hd1 : decide ((k : Int) < (d.pend.length : Int)) = false := by simp; omega
        have hd2 : (d.pend.length : Int) ≤ (k : Int) := by omega
        go_wp2
        refine bodyPost_ret (v := .agg #[.slice (some ⟨g, 0, none⟩) d.dur.length gcap, .slice none 0 0]) (by simp [results, Try.results24, go_sem, y0, y1]) rfl ⟨_, rfl, ?_, HC.out⟩
        rw [HS.out]; exact HO.out
end Go.Proofs.Ytplfehjaakkldaa

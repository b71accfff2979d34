/- The model's l1Copy, l1Put, DiskFlush. -/
import Derived.Test.YtiaaogklfkcbeaiSettle
import Derived.Test.YtiaaogklfkcbeaiCopy
namespace Go.Proofs.Ytiaaogklfkcbeai
open Go.RowKit

theorem splice_take_set (xs ys : List Int) (o k : Nat) (hk : k < ys.length) (ho : o + ys.length ≤ xs.length) :
    ((splice xs o (ys.take k)).map (Value.int .u8)).set (o + k) (.int .u8 (ys.getD k 0)) = (splice xs o (ys.take (k + 1))).map (Value.int .u8) := by
  have e0 : ys.getD k 0 = ys[k] := by simp [List.getD_eq_getElem?_getD, hk]
  rw [← List.map_set]
  congr 1
  rw [e0]
  unfold splice
  have h1 : (xs.take o).length = o := by rw [List.length_take]; omega
  have h2 : (ys.take k).length = k := by rw [List.length_take]; omega
  rw [h2, List.set_append, if_neg (by omega), h1, Nat.add_sub_cancel_left, List.set_append, if_neg (by omega), h2, Nat.sub_self]
  have hd : xs.drop (o + k) = xs[o + k]'(by omega) :: xs.drop (o + k + 1) := by rw [List.drop_eq_getElem_cons]
  have h3 : (ys.take (k + 1)).length = k + 1 := by rw [List.length_take]; omega
  rw [hd, List.set_cons_zero, h3, List.take_succ_eq_append_getElem hk, List.append_assoc]
  rfl

set_option maxHeartbeats 1000000 in
theorem l1Put_calls (w : World) {base lo hi g cap : Nat} {e : TypeId} {b : Value} (xs ys : List Int) (qn : Nat) (h1 : OwnB w base e (.slice (some ⟨g, 0, none⟩) xs.length cap) xs) (h2 : View w lo hi .u8 b ys) (hy : ys.length = 64) (hq : qn * 64 + 64 ≤ xs.length) (hx : xs.length ≤ 1048576)
    (hdis : g < lo ∨ hi ≤ g) :
    Calls Try.prog 48 #[.slice (some ⟨g, 0, none⟩) xs.length cap, .int .i64 qn, b] w fun r w' => r = .returned (.tuple #[]) ∧ OwnB w' base e (.slice (some ⟨g, 0, none⟩) xs.length cap) (splice xs (qn * 64) ys) ∧ Chg g (g + 1) w w' := by
  obtain ⟨bo, bcap, rfl, _, _, hb⟩ := h2
  obtain ⟨yb, yo, rfl, hl, hh, hyc⟩ : ∃ yb yo, bo = some ⟨yb, yo, none⟩ ∧ lo ≤ yb ∧ yb < hi ∧ ∀ i, i < ys.length → w.cell? ⟨yb, yo + i, none⟩ = some (.int .u8 (ys.getD i 0)) := by
    rcases hb with h | ⟨yb, yo, e, a, b, c⟩
    · rw [h] at hy; simp at hy
    · exact ⟨yb, yo, e, a, b, c⟩
  have hne : yb ≠ g := by omega
  have Hyc : Hid (∀ i, i < ys.length → w.cell? ⟨yb, yo + i, none⟩ = some (.int .u8 (ys.getD i 0))) := hyc
  have Hy : Hid (ys.length = 64) := hy
  have H1 : Hid (OwnB w base e (.slice (some ⟨g, 0, none⟩) xs.length cap) xs) := h1
  have e64 : Hid (∀ k, k ≤ 64 → (splice xs (qn * 64) (ys.take k)).length = xs.length) := by
    intro k hk
    exact length_splice _ _ _ (by rw [List.length_take]; omega)
  rw [hy]
  clear hb hyc hy h1
  go_enter Try.func48, Try.ntmps48
  go_wp2
  go_loopw [6] (fun i wr => ∃ k : Nat, k ≤ 64 ∧ i = .int .i64 k ∧ OwnB wr base e (.slice (some ⟨g, 0, none⟩) xs.length cap) (splice xs (qn * 64) (ys.take k)) ∧ Chg g (g + 1) w wr) (fun i _ => 64 - (intOf i).toNat)
  case atStart => exact ⟨0, Nat.zero_le _, rfl, by have e : splice xs (qn * 64) (ys.take 0) = xs := by simp [splice]
                                                   rw [e]; exact H1.out, Chg.refl _ _ _⟩
  case round =>
    obtain ⟨k, hk, rfl, hown, hch⟩ := hrel
    have hl := e64.out k hk
    have hown' : wr.ownsRow base e 1 (.slice (some ⟨g, 0, none⟩) xs.length cap) xs.length ((splice xs (qn * 64) (ys.take k)).map (Value.int .u8)) := by
      have := hown; unfold OwnB at this; rw [hl] at this; exact this
    by_cases hlt : k < 64
    · have c1 : ∃ u, wr.cell? ⟨g, qn * 64 + k, none⟩ = some u := by
        have := World.ownsRow.cellAt hown' (qn * 64 + k) (by omega)
        rw [this]
        exact ⟨_, List.getElem?_eq_getElem (by rw [List.length_map, hl]; omega)⟩
      obtain ⟨u, c1⟩ := c1
      have f1 : wr.frozen? ⟨g, qn * 64 + k, none⟩ = false := World.ownsRow.frozenAt hown' (qn * 64 + k)
      have hyl := Hy.out
      have c2 := hch.cell (Hyc.out k (by omega)) (by omega)
      have hst := (World.ownsRow.stored hown' (qn * 64 + k) (.int .u8 (ys.getD k 0))).1
      rw [splice_take_set xs ys (qn * 64) k (by omega) (by omega)] at hst
      have hl2 := e64.out (k + 1) (by omega)
      have HR : Hid (OwnB (wr.setCell ⟨g, qn * 64 + k, none⟩ (.int .u8 (ys.getD k 0))) base e (.slice (some ⟨g, 0, none⟩) xs.length cap) (splice xs (qn * 64) (ys.take (k + 1)))) := by
        show OwnB _ _ _ _ _
        unfold OwnB; rw [hl2]; exact hst
      have HR2 : Hid (Chg g (g + 1) w (wr.setCell ⟨g, qn * 64 + k, none⟩ (.int .u8 (ys.getD k 0)))) := hch.setCell (Or.inl ⟨Nat.le_refl _, Nat.lt_succ_self _⟩) _
      generalize ys.getD k 0 = x at *
      have hik : (k : Int) < 64 := by omega
      have hi1 : (qn : Int) * 64 + (k : Int) < (xs.length : Int) := by omega
      have hi2 : ((qn : Int) * 64 + (k : Int)).toNat = qn * 64 + k := by omega
      clear hst hown hown' hl hl2 hch Hyc hyl Hy e64 H1
      go_wp2
      go_roundw
      case rel => exact ⟨k + 1, by omega, by go_num, HR.out, HR2.out⟩
      case measure => simp [intOf]; omega
    · obtain rfl : k = 64 := by omega
      have HR : Hid (OwnB wr base e (.slice (some ⟨g, 0, none⟩) xs.length cap) (splice xs (qn * 64) ys)) := by
        have := hown; rw [List.take_of_length_le (by rw [Hy.out]; exact Nat.le_refl _)] at this; exact this
      clear hown hown' hl
      go_wp2
      go_end0
      exact ⟨rfl, HR.out, hch⟩

theorem two_in {w : World} {s : Nat} {a b : Value} {t : TypeId} (h : w.heap[s]? = some (.cells #[a, b] t (0, 0))) : s < w.heap.size := (Array.getElem?_eq_some_iff.1 h).1

theorem OwnB.slice_of {w : World} {base : Nat} {e : TypeId} {v : Value} {xs : List Int} (h : OwnB w base e v xs) (hx : 0 < xs.length) : ∃ g cap, v = .slice (some ⟨g, 0, none⟩) xs.length cap := by
  rcases h.2 with ⟨_, h0⟩ | ⟨g, cap, cur, e, _⟩
  · omega
  · exact ⟨g, cap, e⟩

set_option maxHeartbeats 2000000 in
theorem specFlush_calls (w : World) {lo hi : Nat} {a : Value} {d : Dsk} (h1 : DView w lo hi a d) (hlo : hi ≤ w.heap.size) (hf : d.dur.length ≤ 1048576) :
    Calls Try.prog 21 #[a] w fun e w' => ∃ v, e = .returned v ∧ OwnD w' w.heap.size w'.heap.size 61 5 v (flushD d) ∧ Chg 0 0 w w' := by
  have d0 := h1
  obtain ⟨dv, pv, rfl, v1, p1⟩ := h1
  have v0 := v1
  have p0 := p1
  obtain ⟨ao, cap, rfl, _, _, _⟩ := v1
  obtain ⟨po, pcap, rfl, _, _, hpc⟩ := p1
  obtain ⟨z1, z2, z3⟩ := alloc2 w (.cells #[.slice ao d.dur.length cap, .slice po d.pend.length pcap] 38) (.cells #[.slice none 0 0, .slice none 0 0] 38)
  have hA : Chg 0 0 w ((w.alloc (.cells #[.slice ao d.dur.length cap, .slice po d.pend.length pcap] 38)).alloc (.cells #[.slice none 0 0, .slice none 0 0] 38)) := (Chg.alloc (Chg.refl 0 0 w) _).alloc _
  go_enter Try.func21, Try.ntmps21
  go_wp2_with fail
  generalize (w.alloc (.cells #[.slice ao d.dur.length cap, .slice po d.pend.length pcap] 38)).alloc (.cells #[.slice none 0 0, .slice none 0 0] 38) = wa at *
  refine (specValid_calls _ (d0.chg hA (by omega))).mono ?_
  rintro e wb ⟨rfl, hb⟩
  have sb := hb.size
  have B0 := (hb.block w.heap.size (by omega) (by omega)).trans z2
  have B1 := (hb.block (w.heap.size + 1) (by omega) (by omega)).trans z3
  have hB := hA.trans hb
  clear hA hb z2 z3
  obtain ⟨x0, x1, _, _⟩ := two_cells B0
  obtain ⟨y0, y1, yf0, yf1⟩ := two_cells B1
  cases hV : validB d with
  | false =>
    have HC : Hid (Chg 0 0 w ((wb.setCell ⟨w.heap.size + 1, 0, none⟩ (.slice none 0 0)).setCell ⟨w.heap.size + 1, 1, none⟩ (.slice none 0 0))) := hB.step (Chg.set2 _ _ _ _) (by omega)
    have HF : Hid (flushD d = Dsk.none) := by show _ = _; unfold flushD; rw [if_neg (by rw [hV]; simp)]
    clear B0 B1 hB d0 v0 p0 hpc hV
    go_wp2
    refine bodyPost_ret (v := .agg #[.slice none 0 0, .slice none 0 0]) (by simp [results, Try.results21, go_sem, y0, y1]) rfl ⟨_, rfl, ?_, HC.out⟩
    rw [HF.out]; exact OwnD.none _ _ _ _ _
  | true =>
    have hVal := (validB_iff d).1 hV
    have HF : Hid (flushD d = setD (fun _ => true) d) := by show _ = _; unfold flushD; rw [if_pos hV]
    have vb := v0.chg hB (by omega)
    clear hV
    go_wp2_with fail
    refine (l1Copy_calls _ hf vb).mono ?_
    rintro e wc ⟨vc, rfl, oc, hc⟩
    obtain ⟨g, gcap, rfl⟩ := oc.slice_of (by have := hVal.2.1; omega)
    have gb := oc.lt g rfl
    have sc := hc.size
    have B0 := (hc.block w.heap.size (by omega) (by omega)).trans B0
    have B1 := (hc.block (w.heap.size + 1) (by omega) (by omega)).trans B1
    have hC := hB.trans hc
    have C1 : Chg 0 0 wc (wc.alloc (.cells #[.slice (some ⟨g, 0, none⟩) d.dur.length gcap, .slice none 0 0] 38)) := Chg.alloc (Chg.refl 0 0 wc) _
    have B2 := heap_new wc (.cells #[.slice (some ⟨g, 0, none⟩) d.dur.length gcap, .slice none 0 0] 38)
    have sD : (wc.alloc (.cells #[.slice (some ⟨g, 0, none⟩) d.dur.length gcap, .slice none 0 0] 38)).heap.size = wc.heap.size + 1 := by simp
    clear hB hc x0 x1 y0 y1 yf0 yf1 vb v0 d0 p0
    go_wp2
    generalize wc.alloc (.cells #[.slice (some ⟨g, 0, none⟩) d.dur.length gcap, .slice none 0 0] 38) = wd at *
    have B0 := (C1.block w.heap.size (by omega) (by omega)).trans B0
    have B1 := (C1.block (w.heap.size + 1) (by omega) (by omega)).trans B1
    have hD := hC.trans C1
    have O0 : Hid (OwnB wd w.heap.size 5 (.slice (some ⟨g, 0, none⟩) d.dur.length gcap) d.dur) := (oc.chg C1 (by intro g' _; omega)).base (fun g' hg' => by cases hg'; show w.heap.size ≤ g; omega)
    have HP : Hid (∀ k, k < d.pend.length → ∃ pb poff dao dcap, po = some ⟨pb, poff, none⟩ ∧ pb < w.heap.size ∧ wd.cell? ⟨pb, poff + k * 2, none⟩ = some (.int .i64 (d.pend.getD k (0, [])).1) ∧ wd.cell? ⟨pb, poff + k * 2 + 1, none⟩ = some (.slice dao (d.pend.getD k (0, [])).2.length dcap) ∧ View wd lo hi .u8 (.slice dao (d.pend.getD k (0, [])).2.length dcap) (d.pend.getD k (0, [])).2) := by
      intro k hk
      rcases hpc with e | ⟨pb, poff, e, _, _, h⟩
      · rw [e] at hk; simp at hk
      · obtain ⟨dv, c1, c2, vw⟩ := h k hk
        have vw' := vw
        obtain ⟨dao, dcap, rfl, _⟩ := vw'
        exact ⟨pb, poff, dao, dcap, e, lt_of_cell c1, hD.cell c1 (by omega), hD.cell c2 (by omega), vw.chg hD (by omega)⟩
    have HVal : Hid (Valid d) := hVal
    have hm := hVal.2.2.2.1
    clear hpc hC C1 oc hVal
    obtain ⟨x0, x1, _, _⟩ := two_cells B0
    obtain ⟨u0, u1, _, _⟩ := two_cells B2
    go_loopw [4] (fun i wr => ∃ k : Nat, k ≤ d.pend.length ∧ i = .int .i64 k ∧ OwnB wr w.heap.size 5 (.slice (some ⟨g, 0, none⟩) d.dur.length gcap) (stl (fun _ => true) d.pend d.dur k) ∧ Chg g (g + 1) wd wr) (fun i _ => d.pend.length - (intOf i).toNat)
    case atStart => exact ⟨0, Nat.zero_le _, rfl, O0.out, Chg.refl _ _ _⟩
    case round =>
      obtain ⟨k, hk, rfl, hown, hcw⟩ := hrel
      have x1r := hcw.cell x1 (by omega)
      have u0r := hcw.cell u0 (by omega)
      have u1r := hcw.cell u1 (by omega)
      clear x1 u0 u1
      have szr := hcw.size
      by_cases hlt : k < d.pend.length
      · obtain ⟨pb, poff, dao, dcap, rfl, hpb, c1w, c2w, vww⟩ := HP.out k hlt
        obtain ⟨hq0, hq1, hx64⟩ := HVal.out.2.2.2.2 k hlt
        have hmod := HVal.out.1
        have hlenk := stl_length (fun _ => true) d HVal.out k hk
        have hstep : stl (fun _ => true) d.pend d.dur (k + 1) = splice (stl (fun _ => true) d.pend d.dur k) ((d.pend.getD k (0, [])).1.toNat * 64) (d.pend.getD k (0, [])).2 := by
          conv => lhs; unfold stl
          rw [if_pos rfl]
        have c1 := hcw.cell c1w (by omega)
        have c2 := hcw.cell c2w (by omega)
        have vw := vww.chg hcw (by omega)
        clear c1w c2w vww
        have Hstep : Hid (stl (fun _ => true) d.pend d.dur (k + 1) = splice (stl (fun _ => true) d.pend d.dur k) ((d.pend.getD k (0, [])).1.toNat * 64) (d.pend.getD k (0, [])).2) := hstep
        clear hstep
        generalize d.pend.getD k (0, []) = pr at *
        obtain ⟨q, xs⟩ := pr
        simp only at hq0 hq1 hx64 c1 c2 vw Hstep
        obtain ⟨qn, rfl⟩ := Int.eq_ofNat_of_zero_le hq0
        rw [Int.toNat_natCast] at Hstep
        generalize hX : stl (fun _ => true) d.pend d.dur k = X at *
        rw [← hlenk] at hown u0r
        have Hl : Hid (X.length = d.dur.length) := hlenk
        have hX2 : X.length ≤ 1048576 := by omega
        have hX3 : qn * 64 + 64 ≤ X.length := by omega
        have hgd : g < lo ∨ hi ≤ g := by omega
        have Hown : Hid (OwnB wr w.heap.size 5 (.slice (some ⟨g, 0, none⟩) X.length gcap) X) := hown
        have Hvw : Hid (View wr lo hi .u8 (.slice dao xs.length dcap) xs) := vw
        have Hx : Hid (xs.length = 64) := hx64
        have Hcw : Hid (Chg g (g + 1) wd wr) := hcw
        clear hlenk hown vw hX hx64 hcw HP HVal O0
        have hik : (k : Int) < (d.pend.length : Int) := by omega
        go_wp2
        go_region_held3 (fun w' => w'.cell? ⟨wc.heap.size, 0, none⟩ = some (.slice (some ⟨g, 0, none⟩) X.length gcap) ∧ w'.cell? ⟨w.heap.size, 1, none⟩ = some (.slice (some ⟨pb, poff, none⟩) d.pend.length pcap) ∧ w'.cell? ⟨pb, poff + k * 2, none⟩ = some (.int .i64 (qn : Int)) ∧ w'.cell? ⟨pb, poff + k * 2 + 1, none⟩ = some (.slice dao xs.length dcap))
          (first | exact ⟨u0r, x1r, c1, c2⟩ | exact ⟨C2.cell (w := wr.drew) u0r (by omega), C2.cell (w := wr.drew) x1r (by omega), C2.cell (w := wr.drew) c1 (by omega), C2.cell (w := wr.drew) c2 (by omega)⟩)
          ((go_at_call 48; refine (l1Put_calls _ X xs qn (by exact Hown.out) (by exact Hvw.out) Hx.out hX3 hX2 hgd).mono ?_; rintro e w2 ⟨rfl, ho, C2⟩))
        have R1 : Hid (OwnB w2 w.heap.size 5 (.slice (some ⟨g, 0, none⟩) d.dur.length gcap) (stl (fun _ => true) d.pend d.dur (k + 1))) := by
          rw [Hstep.out, ← Hl.out]; exact ho
        have R2 : Chg g (g + 1) wd w2 := Hcw.out.drew.trans C2
        clear ho C2 Hown Hvw Hcw Hstep c1 c2 u0r u1r x1r
        go_wp2
        go_roundw
        case rel => exact ⟨k + 1, by omega, by go_num, R1.out, R2⟩
        case measure => simp [intOf]; omega
      · obtain rfl : k = d.pend.length := by omega
        have hl := stl_length (fun _ => true) d HVal.out d.pend.length (Nat.le_refl _)
        have B1r := (hcw.block (w.heap.size + 1) (by omega) (by omega)).trans B1
        obtain ⟨y0, y1, yf0, yf1⟩ := two_cells B1r
        have hgs : g < wr.heap.size := by omega
        have HO : Hid (OwnD ((wr.setCell ⟨w.heap.size + 1, 0, none⟩ (.slice (some ⟨g, 0, none⟩) d.dur.length gcap)).setCell ⟨w.heap.size + 1, 1, none⟩ (.slice none 0 0)) w.heap.size wr.heap.size 61 5 (.agg #[.slice (some ⟨g, 0, none⟩) d.dur.length gcap, .slice none 0 0]) (flushD d)) := by
          rw [HF.out]
          have n1 : (Value.slice (some ⟨g, 0, none⟩) d.dur.length gcap).ownBlock ≠ some (w.heap.size + 1) := by simp [Value.ownBlock]; omega
          refine ⟨_, _, [], _, rfl, (hown.set (p := ⟨w.heap.size + 1, 0, none⟩) n1 _).set (p := ⟨w.heap.size + 1, 1, none⟩) n1 _, OwnPx.nil _ _ _ _, by simp [setD], ?_, by simp [Value.ownBlock], by simp [setD]⟩
          intro g' hg'
          cases hg'
          exact hgs
        have HC : Hid (Chg 0 0 w ((wr.setCell ⟨w.heap.size + 1, 0, none⟩ (.slice (some ⟨g, 0, none⟩) d.dur.length gcap)).setCell ⟨w.heap.size + 1, 1, none⟩ (.slice none 0 0))) := (hD.step hcw (by omega)).step (Chg.set2 _ _ _ _) (by omega)
        have HS : Hid (((wr.setCell ⟨w.heap.size + 1, 0, none⟩ (.slice (some ⟨g, 0, none⟩) d.dur.length gcap)).setCell ⟨w.heap.size + 1, 1, none⟩ (.slice none 0 0)).heap.size = wr.heap.size) := by show _ = _; simp [World.setCell]
        clear hown hcw HP HVal O0 hl B1r HF B0 B1 B2
        go_wp2
        refine bodyPost_ret (v := .agg #[.slice (some ⟨g, 0, none⟩) d.dur.length gcap, .slice none 0 0]) (by simp [results, Try.results21, go_sem, y0, y1]) rfl ⟨_, rfl, ?_, HC.out⟩
        rw [HS.out]; exact HO.out
end Go.Proofs.Ytiaaogklfkcbeai

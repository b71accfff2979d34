/- DiskDo of the model. -/
import Derived.Test.YtplfehjaakkldaaSpecDo2
namespace Go.Proofs.Ytplfehjaakkldaa
open Go.RowKit

theorem l1Do_calls (w : World) {lo hi blo bhi : Nat} {v bv : Value} {d : Dsk} (q a : Int) (ys : List Int) (h : OwnD w lo hi 55 5 v d) (hVal : Valid d) (hb : View w blo bhi .u8 bv ys) (hhi : hi ≤ w.heap.size) :
    Calls Try.prog 67 #[v, .agg #[.int .i64 q, .int .i64 a, bv]] w fun e w' => DidD w w' lo (opD d (q, a, ys)) e := by
  have hb0 := hb
  obtain ⟨bo, bcap, rfl, _, _, _⟩ := hb
  by_cases h1 : q = 2 ∧ a = 0 ∧ ys.length = 0
  · obtain ⟨rfl, rfl, h0⟩ := h1
    have e : opD d (2, 0, ys) = some (setD (fun _ => true) d) := by unfold opD; rw [if_neg (show ¬ (2 : Int) = 1 by decide), if_pos rfl, if_pos ⟨rfl, h0⟩]
    rw [e, h0]
    exact l1Do_flush w bo bcap h hVal
  · by_cases h3 : q = 1 ∧ d.pend.length < 600 ∧ 0 ≤ a
    · obtain ⟨rfl, h4, h5⟩ := h3
      exact l1Do_one w a ys bo bcap h hVal hb0 h4 h5 hhi
    · exact l1Do_no w q a ys bo bcap h hVal h1 (fun h => h3 ⟨h.1, h.2.1, h.2.2.1⟩) h3

theorem Keep.at {w w' : World} (h : Keep w w') {k : Nat} {cur : Array Value} {t : TypeId} (hb : w.heap[k]? = some (.cells cur t (0, 0))) (h1 : t ≠ 5) (h2 : t ≠ 55) : w'.heap[k]? = some (.cells cur t (0, 0)) := by
  rw [h k (Array.getElem?_eq_some_iff.1 hb).1 (fun c e => ?_) (fun c e => ?_)]; exact hb
  · rw [hb] at e; simp only [Option.some.injEq, Obj.cells.injEq] at e; exact h1 e.2.1
  · rw [hb] at e; simp only [Option.some.injEq, Obj.cells.injEq] at e; exact h2 e.2.1

/-- A disk of one's own where a block that holds neither bytes nor writes is written. -/
theorem OwnD.other {w w' : World} {lo hi n : Nat} {eW eB t : TypeId} {v : Value} {d : Dsk} {cur : Array Value} (h : OwnD w lo hi eW eB v d) (c : Chg n (n + 1) w w') (hn : w.heap[n]? = some (.cells cur t (0, 0))) (h1 : t ≠ eW) (h2 : t ≠ eB) : OwnD w' lo hi eW eB v d := by
  obtain ⟨dv, pv, cells, dvs, h⟩ := h
  have nb : ∀ {v' : Value} {xs : List Int}, OwnB w lo eB v' xs → ∀ g, v'.ownBlock = some g → g < n ∨ n + 1 ≤ g := by
    intro v' xs ho g hg
    obtain ⟨c', hc'⟩ := ho.elem hg
    have : g ≠ n := fun e => by rw [e, hn] at hc'; simp only [Option.some.injEq, Obj.cells.injEq] at hc'; exact h2 hc'.2.1
    omega
  refine ⟨dv, pv, cells, dvs, h.agg, h.dur.chg c (nb h.dur), h.pend.chg c ?_ (fun i g hi hg => nb (h.pend.data i hi) g hg), h.apart, h.hiD, h.hiP, h.hiX⟩
  intro g hg
  obtain ⟨c', hc'⟩ := row_elem' h.pend.row hg
  have : g ≠ n := fun e => by rw [e, hn] at hc'; simp only [Option.some.injEq, Obj.cells.injEq] at hc'; exact h1 hc'.2.1
  omega

theorem OwnD.upper {w : World} {lo hi hi' : Nat} {eW eB : TypeId} {v : Value} {d : Dsk} (h : OwnD w lo hi eW eB v d) (e : hi ≤ hi') : OwnD w lo hi' eW eB v d := by
  obtain ⟨dv, pv, cells, dvs, h⟩ := h
  exact ⟨dv, pv, cells, dvs, h.agg, h.dur, h.pend, h.apart, fun g hg => Nat.lt_of_lt_of_le (h.hiD g hg) e, fun g hg => Nat.lt_of_lt_of_le (h.hiP g hg) e, fun i g hi hg => Nat.lt_of_lt_of_le (h.hiX i g hi hg) e⟩

/-- Both cells of a block of two are written anew. -/
theorem heap_set2 {w : World} {n : Nat} {a b : Value} {t : TypeId} (h : w.heap[n]? = some (.cells #[a, b] t (0, 0))) (x y : Value) : ((w.setCell ⟨n, 0, none⟩ x).setCell ⟨n, 1, none⟩ y).heap[n]? = some (.cells #[x, y] t (0, 0)) := by
  have h1 := heap_setCell_same w n 0 _ _ x h
  have h2 := heap_setCell_same (w.setCell ⟨n, 0, none⟩ x) n 1 _ _ y h1
  simpa using h2

theorem opD_valid {d d' : Dsk} {o : Opx} (hv : Valid d) (h : opD d o = some d') : Valid d' := by
  obtain ⟨q, a, ys⟩ := o
  unfold opD at h
  simp only at h
  split at h
  · split at h
    · rename_i _ hok
      cases h
      obtain ⟨h1, h2, h3, h4⟩ := hok
      obtain ⟨an, rfl⟩ := Int.eq_ofNat_of_zero_le h2
      exact hv.snoc h1 (by omega) h4
    · cases h
  · split at h
    · split at h
      · cases h; exact setD_valid _ hv
      · cases h
    · cases h

theorem opD_dur {d d' : Dsk} {o : Opx} (hv : Valid d) (h : opD d o = some d') : d'.dur.length = d.dur.length := by
  obtain ⟨q, a, ys⟩ := o
  unfold opD at h
  simp only at h
  split at h
  · split at h
    · cases h; rfl
    · cases h
  · split at h
    · split at h
      · cases h; exact stl_length _ d hv _ (Nat.le_refl _)
      · cases h
    · cases h

set_option maxRecDepth 20000 in
set_option maxHeartbeats 8000000 in
theorem specDo_calls (w : World) {lo hi lo2 hi2 : Nat} {v ov : Value} {d : Dsk} {os : List Opx} (limit : Int) (h1 : DView w lo hi v d) (ho : OView w lo2 hi2 ov os) (hf : d.dur.length ≤ 1048576) :
    Calls Try.prog 33 #[v, ov, .int .i64 limit] w fun e w' => ∃ v, e = .returned v ∧ OwnD w' w.heap.size w'.heap.size 55 5 v (doD d os limit) ∧ Chg 0 0 w w' := by
  have d0 := h1
  have o0 := ho
  obtain ⟨dv, pv, rfl, v1, p1⟩ := h1
  obtain ⟨ao, cap, rfl, _, _, _⟩ := v1
  obtain ⟨po, pcap, rfl, _, _, _⟩ := p1
  obtain ⟨oo, ocap, rfl, _, _, _⟩ := ho
  obtain ⟨z1, z2, z3⟩ := alloc2 w (.cells #[.slice ao d.dur.length cap, .slice po d.pend.length pcap] 29) (.cells #[.slice none 0 0, .slice none 0 0] 29)
  have hA : Chg 0 0 w ((w.alloc (.cells #[.slice ao d.dur.length cap, .slice po d.pend.length pcap] 29)).alloc (.cells #[.slice none 0 0, .slice none 0 0] 29)) := (Chg.alloc (Chg.refl 0 0 w) _).alloc _
  have dA := d0.chg hA (by omega)
  go_enter Try.func33, Try.ntmps33
  go_wp2_with fail
  generalize (w.alloc (.cells #[.slice ao d.dur.length cap, .slice po d.pend.length pcap] 29)).alloc (.cells #[.slice none 0 0, .slice none 0 0] 29) = wa at *
  refine (specValid_calls _ dA).mono ?_
  rintro e wb ⟨rfl, hb⟩
  have sb := hb.size
  have B0 := (hb.block w.heap.size (by omega) (by omega)).trans z2
  have B1 := (hb.block (w.heap.size + 1) (by omega) (by omega)).trans z3
  have hB := hA.trans hb
  clear hA hb z2 z3 dA
  obtain ⟨x0, x1, _, _⟩ := two_cells B0
  obtain ⟨y0, y1, yf0, yf1⟩ := two_cells B1
  have HC : Hid (Chg 0 0 w ((wb.setCell ⟨w.heap.size + 1, 0, none⟩ (.slice none 0 0)).setCell ⟨w.heap.size + 1, 1, none⟩ (.slice none 0 0))) := hB.step (Chg.set2 _ _ _ _) (by omega)
  cases hV : validB d with
  | false =>
    have HF : Hid (doD d os limit = Dsk.none) := by show _ = _; unfold doD; rw [if_neg (by rw [hV]; simp)]
    clear B0 B1 hB d0 o0 hV
    go_wp2
    refine bodyPost_ret (v := .agg #[.slice none 0 0, .slice none 0 0]) (by simp [results, Try.results33, go_sem, y0, y1]) rfl ⟨_, rfl, ?_, HC.out⟩
    rw [HF.out]; exact OwnD.none _ _ _ _ _
  | true =>
    by_cases h4 : os.length ≤ 4000
    case neg =>
      have HF : Hid (doD d os limit = Dsk.none) := by show _ = _; unfold doD; rw [if_neg (fun h => h4 h.2)]
      have h4' : (os.length : Int) > 4000 := by omega
      clear B0 B1 hB d0 o0 hV h4
      go_wp2
      refine bodyPost_ret (v := .agg #[.slice none 0 0, .slice none 0 0]) (by simp [results, Try.results33, go_sem, y0, y1]) rfl ⟨_, rfl, ?_, HC.out⟩
      rw [HF.out]; exact OwnD.none _ _ _ _ _
    have hVal := (validB_iff d).1 hV
    have HD : Hid (doD d os limit = (runD d (firstN os limit)).getD Dsk.none) := by show _ = _; unfold doD; rw [if_pos ⟨hV, h4⟩]
    have HVal : Hid (Valid d) := hVal
    clear hV HC
    go_wp2_with fail
    refine (l1CopyDisk_calls _ (d0.chg hB (by omega)) hVal hf).mono ?_
    rintro e wk ⟨v, rfl, oc, hc⟩
    obtain ⟨a1, l1, c1, a1', l1', c1', rfl⟩ := oc.agg
    have sc := hc.size
    have B1 := (hc.block (w.heap.size + 1) (by omega) (by omega)).trans B1
    have hC := hB.trans hc
    clear hc hVal x0 x1 y0 y1 yf0 yf1 B0
    go_wp2
    have C1 : Chg 0 0 wk (wk.alloc (.cells #[.slice a1 l1 c1, .slice a1' l1' c1'] 29)) := Chg.alloc (Chg.refl 0 0 wk) _
    have B7 := heap_new wk (.cells #[.slice a1 l1 c1, .slice a1' l1' c1'] 29)
    have s7 : (wk.alloc (.cells #[.slice a1 l1 c1, .slice a1' l1' c1'] 29)).heap.size = wk.heap.size + 1 := by simp
    generalize wk.alloc (.cells #[.slice a1 l1 c1, .slice a1' l1' c1'] 29) = wd at *
    obtain ⟨fs, hfs⟩ : ∃ fs, firstN os limit = fs := ⟨_, rfl⟩
    have HFS : Hid (firstN os limit = fs) := hfs
    have hfl : fs.length ≤ os.length ∧ (∀ k, k < fs.length → (limit < 0 ∨ (k : Int) < limit) ∧ fs.getD k Opx.zero = os.getD k Opx.zero) ∧ (fs.length = os.length ∨ (0 ≤ limit ∧ (fs.length : Int) = limit)) := by
      rw [← hfs]; unfold firstN
      split
      · rename_i hl
        exact ⟨Nat.le_refl _, fun k hk => ⟨by omega, rfl⟩, Or.inl rfl⟩
      · rename_i hl
        have e1 : (os.take limit.toNat).length = limit.toNat := by rw [List.length_take]; omega
        refine ⟨by omega, fun k hk => ⟨by omega, ?_⟩, Or.inr ⟨by omega, by omega⟩⟩
        simp only [List.getD_eq_getElem?_getD, List.getElem?_take]
        rw [if_pos (by omega)]
    have HO0 : Hid (OView w lo2 hi2 (.slice oo os.length ocap) os) := o0
    have HOD : Hid (OwnD wd wb.heap.size wk.heap.size 55 5 (.agg #[.slice a1 l1 c1, .slice a1' l1' c1']) d) := oc.chg C1 (by omega)
    have HB7 : Hid (wd.heap[wk.heap.size]? = some (.cells #[.slice a1 l1 c1, .slice a1' l1' c1'] 29 (0, 0))) := B7
    have HB1 : Hid (wd.heap[w.heap.size + 1]? = some (.cells #[.slice none 0 0, .slice none 0 0] 29 (0, 0))) := (C1.block (w.heap.size + 1) (by omega) (by omega)).trans B1
    have HCD : Hid (Chg 0 0 w wd) := hC.trans C1
    clear C1 B7 B1 hC oc o0 d0 hfs hB
    go_loopw [8] (fun i wr => ∃ (k : Nat) (dk : Dsk) (p1 : Option Addr) (p2 p3 : Nat) (p4 : Option Addr) (p5 p6 hi3 : Nat), k ≤ fs.length ∧ i = .int .i64 k ∧ runD d (fs.take k) = some dk ∧ Valid dk ∧ hi3 ≤ wr.heap.size ∧
        OwnD wr wb.heap.size hi3 55 5 (.agg #[.slice p1 p2 p3, .slice p4 p5 p6]) dk ∧ wr.heap[wk.heap.size]? = some (.cells #[.slice p1 p2 p3, .slice p4 p5 p6] 29 (0, 0)) ∧ wr.heap[w.heap.size + 1]? = some (.cells #[.slice none 0 0, .slice none 0 0] 29 (0, 0)) ∧ Chg 0 0 w wr) (fun i _ => fs.length - (intOf i).toNat)
    case atStart => exact ⟨0, d, a1, l1, c1, a1', l1', c1', wk.heap.size, Nat.zero_le _, rfl, rfl, HVal.out, by omega, HOD.out, HB7.out, HB1.out, HCD.out⟩
    case round =>
      obtain ⟨k, dk, p1, p2, p3, p4, p5, p6, hi3, hk, rfl, hrun, hval, hh3, hod, hb7, hb1, hch⟩ := hrel
      have s8 := hch.size
      have hb7s := (Array.getElem?_eq_some_iff.1 hb7).1
      clear HOD HB7 HB1 HCD HVal
      by_cases hlt : k < fs.length
      · obtain ⟨hlim, hget⟩ := hfl.2.1 k hlt
        have hko : k < os.length := by omega
        have hko' : (k : Int) < (os.length : Int) := by omega
        obtain ⟨ob, ooff, rfl, hob1, hob2, hcell⟩ : ∃ b off, oo = some ⟨b, off, none⟩ ∧ lo2 ≤ b ∧ b < hi2 ∧ ∀ i, i < os.length → ∃ dv, w.cell? ⟨b, off + i * 3, none⟩ = some (.int .i64 (os.getD i Opx.zero).1) ∧ w.cell? ⟨b, off + i * 3 + 1, none⟩ = some (.int .i64 (os.getD i Opx.zero).2.1) ∧ w.cell? ⟨b, off + i * 3 + 2, none⟩ = some dv ∧ View w lo2 hi2 .u8 dv (os.getD i Opx.zero).2.2 := by
          obtain ⟨_, _, e, _, _, h⟩ := HO0.out
          cases e
          rcases h with h | ⟨b, off, e, h1, h2, h3⟩
          · rw [h] at hko; simp at hko
          · cases e; exact ⟨b, off, rfl, h1, h2, h3⟩
        obtain ⟨dv, c1w, c2w, c3w, vww⟩ := hcell k hko
        have HR : Hid (runD d (fs.take (k + 1)) = opD dk (os.getD k Opx.zero)) := by show _ = _; rw [runD_take_succ d fs k hlt, hrun, hget]; rfl
        have q1 := hch.cell c1w (by omega)
        have q2 := hch.cell c2w (by omega)
        have q3 := hch.cell c3w (by omega)
        have vw := vww.chg hch (by omega)
        clear hcell c1w c2w c3w vww hget hfl
        generalize os.getD k Opx.zero = o at *
        obtain ⟨q, a, ys⟩ := o
        simp only at q1 q2 q3 vw
        have vw0 : Hid (View wr lo2 hi2 .u8 dv ys) := vw
        obtain ⟨vo, vc, rfl, _, _, _⟩ := vw
        obtain ⟨x0, x1, _, _⟩ := two_cells hb7
        have HODk : Hid (OwnD wr wb.heap.size hi3 55 5 (.agg #[.slice p1 p2 p3, .slice p4 p5 p6]) dk) := hod
        have HB7 : Hid (wr.heap[wk.heap.size]? = some (.cells #[.slice p1 p2 p3, .slice p4 p5 p6] 29 (0, 0))) := hb7
        have HB1 : Hid (wr.heap[w.heap.size + 1]? = some (.cells #[.slice none 0 0, .slice none 0 0] 29 (0, 0))) := hb1
        have HCH : Hid (Chg 0 0 w wr) := hch
        have HVk : Hid (Valid dk) := hval
        clear hod hb7 hb1 hch hval hrun
        have hlim2 : limit < 0 ∨ (¬ limit < 0 ∧ (k : Int) < limit) := by omega
        have CA : Chg 0 0 wr (wr.alloc (.cells #[.slice none 0 0, .slice none 0 0] 29)) := Chg.alloc (Chg.refl 0 0 wr) _
        have q1a := CA.cell q1 (by omega)
        have q2a := CA.cell q2 (by omega)
        have q3a := CA.cell q3 (by omega)
        have x0a := CA.cell x0 (by omega)
        have x1a := CA.cell x1 (by omega)
        rcases hlim2 with hl1 | ⟨hl1, hl2⟩
        all_goals
          go_upto_region 7 with fail
          go_cut [9, 10] (fun s9 s10 wx => ∃ (n : Nat) (b : Bool) (r1 : Option Addr) (r2 r3 : Nat) (r4 : Option Addr) (r5 r6 : Nat), s9 = .pointer (some ⟨n, 0, none⟩) ∧ s10 = .bool b ∧ wx.heap[n]? = some (.cells #[.slice r1 r2 r3, .slice r4 r5 r6] 29 (0, 0)) ∧ n ≠ wk.heap.size ∧ n ≠ w.heap.size + 1 ∧
              wx.heap[wk.heap.size]? = some (.cells #[.slice p1 p2 p3, .slice p4 p5 p6] 29 (0, 0)) ∧ wx.heap[w.heap.size + 1]? = some (.cells #[.slice none 0 0, .slice none 0 0] 29 (0, 0)) ∧ Chg 0 0 w wx ∧
              ((b = true ∧ ∃ d', opD dk (q, a, ys) = some d' ∧ ∃ hi4, hi4 ≤ wx.heap.size ∧ OwnD wx wb.heap.size hi4 55 5 (.agg #[.slice r1 r2 r3, .slice r4 r5 r6]) d') ∨ (b = false ∧ opD dk (q, a, ys) = none)))
          case first =>
            go_region_with (go_at_call 67; refine (l1Do_calls _ q a ys (HODk.out.chg (by first | exact Chg.drew (Chg.refl 0 0 wr) | exact (Chg.drew (Chg.refl 0 0 wr)).alloc _ | exact (Chg.alloc (Chg.refl 0 0 wr) _).drew) (by omega)) HVk.out (vw0.out.chg (by first | exact Chg.drew (Chg.refl 0 0 wr) | exact (Chg.drew (Chg.refl 0 0 wr)).alloc _ | exact (Chg.alloc (Chg.refl 0 0 wr) _).drew) (by omega)) (by first | exact hh3 | (simp; omega))).mono ?_; rintro e w2 ⟨v2, b, rfl, ⟨r1, r2, r3, r4, r5, r6, rfl⟩, hc2, hkp, hr⟩; first | (have nb := hkp.at (w := (wr.alloc (.cells #[.slice none 0 0, .slice none 0 0] 29)).drew) (k := wr.heap.size) (heap_new wr (.cells #[.slice none 0 0, .slice none 0 0] 29)) (by decide) (by decide); obtain ⟨n0, n1, nf0, nf1⟩ := two_cells nb) | skip)
            all_goals
              have zc := hc2.size
              first
              | (have zz : wr.heap.size ≤ w2.heap.size := hc2.size
                 have b7 := hkp.at (w := wr.drew) HB7.out (by decide) (by decide)
                 have b1 := hkp.at (w := wr.drew) HB1.out (by decide) (by decide)
                 have CB : Chg 0 0 w2 (w2.alloc (.cells #[.slice r1 r2 r3, .slice r4 r5 r6] 29)) := Chg.alloc (Chg.refl 0 0 w2) _
                 have z7 := (Array.getElem?_eq_some_iff.1 b7).1
                 have z1' := (Array.getElem?_eq_some_iff.1 b1).1
                 have F1 : Hid ((w2.alloc (.cells #[.slice r1 r2 r3, .slice r4 r5 r6] 29)).heap[w2.heap.size]? = some (.cells #[.slice r1 r2 r3, .slice r4 r5 r6] 29 (0, 0))) := heap_new w2 _
                 have F2 : Hid ((w2.alloc (.cells #[.slice r1 r2 r3, .slice r4 r5 r6] 29)).heap[wk.heap.size]? = some (.cells #[.slice p1 p2 p3, .slice p4 p5 p6] 29 (0, 0))) := (CB.block _ z7 (by omega)).trans b7
                 have F3 : Hid ((w2.alloc (.cells #[.slice r1 r2 r3, .slice r4 r5 r6] 29)).heap[w.heap.size + 1]? = some (.cells #[.slice none 0 0, .slice none 0 0] 29 (0, 0))) := (CB.block _ z1' (by omega)).trans b1
                 have F4 : Hid (Chg 0 0 w (w2.alloc (.cells #[.slice r1 r2 r3, .slice r4 r5 r6] 29))) := (HCH.out.drew.step hc2 (Or.inr (Or.inl (by omega)))).trans CB
                 have F5 : Hid ((b = true ∧ ∃ d', opD dk (q, a, ys) = some d' ∧ ∃ hi4, hi4 ≤ (w2.alloc (.cells #[.slice r1 r2 r3, .slice r4 r5 r6] 29)).heap.size ∧ OwnD (w2.alloc (.cells #[.slice r1 r2 r3, .slice r4 r5 r6] 29)) wb.heap.size hi4 55 5 (.agg #[.slice r1 r2 r3, .slice r4 r5 r6]) d') ∨ (b = false ∧ opD dk (q, a, ys) = none)) := by
                   rcases hr with ⟨e1, d', e2, e3⟩ | e
                   · exact Or.inl ⟨e1, d', e2, w2.heap.size, CB.size, e3.chg CB (by omega)⟩
                   · exact Or.inr e
                 have F6 : Hid (w2.heap.size ≠ wk.heap.size ∧ w2.heap.size ≠ w.heap.size + 1) := ⟨by omega, by omega⟩
                 clear hr hkp hc2 b7 b1 CB
                 go_wp2_with fail
                 go_meet
                 exact ⟨w2.heap.size, b, r1, r2, r3, r4, r5, r6, rfl, rfl, F1.out, F6.out.1, F6.out.2, F2.out, F3.out, F4.out, F5.out⟩)
              | (have zz : wr.heap.size + 1 ≤ w2.heap.size := by have := hc2.size; simpa using this
                 have CA2 : Chg 0 0 wr (wr.alloc (.cells #[.slice none 0 0, .slice none 0 0] 29)).drew := CA.drew
                 have b7 := hkp.at ((CA2.block wk.heap.size (by omega) (by omega)).trans HB7.out) (by decide) (by decide)
                 have b1 := hkp.at ((CA2.block (w.heap.size + 1) (by omega) (by omega)).trans HB1.out) (by decide) (by decide)
                 have CB : Chg wr.heap.size (wr.heap.size + 1) w2 ((w2.setCell ⟨wr.heap.size, 0, none⟩ (.slice r1 r2 r3)).setCell ⟨wr.heap.size, 1, none⟩ (.slice r4 r5 r6)) := Chg.set2 _ _ _ _
                 have F1 : Hid (((w2.setCell ⟨wr.heap.size, 0, none⟩ (.slice r1 r2 r3)).setCell ⟨wr.heap.size, 1, none⟩ (.slice r4 r5 r6)).heap[wr.heap.size]? = some (.cells #[.slice r1 r2 r3, .slice r4 r5 r6] 29 (0, 0))) := heap_set2 nb _ _
                 have F2 : Hid (((w2.setCell ⟨wr.heap.size, 0, none⟩ (.slice r1 r2 r3)).setCell ⟨wr.heap.size, 1, none⟩ (.slice r4 r5 r6)).heap[wk.heap.size]? = some (.cells #[.slice p1 p2 p3, .slice p4 p5 p6] 29 (0, 0))) := (CB.block _ (by omega) (by omega)).trans b7
                 have F3 : Hid (((w2.setCell ⟨wr.heap.size, 0, none⟩ (.slice r1 r2 r3)).setCell ⟨wr.heap.size, 1, none⟩ (.slice r4 r5 r6)).heap[w.heap.size + 1]? = some (.cells #[.slice none 0 0, .slice none 0 0] 29 (0, 0))) := (CB.block _ (by omega) (by omega)).trans b1
                 have F4 : Hid (Chg 0 0 w ((w2.setCell ⟨wr.heap.size, 0, none⟩ (.slice r1 r2 r3)).setCell ⟨wr.heap.size, 1, none⟩ (.slice r4 r5 r6))) := ((HCH.out.trans CA2).step hc2 (Or.inr (Or.inl (by omega)))).step CB (Or.inr (Or.inl (by omega)))
                 have F5 : Hid ((b = true ∧ ∃ d', opD dk (q, a, ys) = some d' ∧ ∃ hi4, hi4 ≤ ((w2.setCell ⟨wr.heap.size, 0, none⟩ (.slice r1 r2 r3)).setCell ⟨wr.heap.size, 1, none⟩ (.slice r4 r5 r6)).heap.size ∧ OwnD ((w2.setCell ⟨wr.heap.size, 0, none⟩ (.slice r1 r2 r3)).setCell ⟨wr.heap.size, 1, none⟩ (.slice r4 r5 r6)) wb.heap.size hi4 55 5 (.agg #[.slice r1 r2 r3, .slice r4 r5 r6]) d') ∨ (b = false ∧ opD dk (q, a, ys) = none)) := by
                   rcases hr with ⟨e1, d', e2, e3⟩ | e
                   · exact Or.inl ⟨e1, d', e2, w2.heap.size, CB.size, e3.other CB nb (by decide) (by decide)⟩
                   · exact Or.inr e
                 have F6 : Hid (wr.heap.size ≠ wk.heap.size ∧ wr.heap.size ≠ w.heap.size + 1) := ⟨by omega, by omega⟩
                 clear hr hkp hc2 b7 b1 CB CA2 nb n0 n1 nf0 nf1
                 go_wp2_with fail
                 go_meet
                 exact ⟨wr.heap.size, b, r1, r2, r3, r4, r5, r6, rfl, rfl, F1.out, F6.out.1, F6.out.2, F2.out, F3.out, F4.out, F5.out⟩)
          case rest =>
            obtain ⟨n, b, r1, r2, r3, r4, r5, r6, rfl, rfl, hn, hn7, hn1, h7, hb1', hch', hr⟩ := hcut
            obtain ⟨m0, m1, _, _⟩ := two_cells hn
            obtain ⟨u0, u1, uf0, uf1⟩ := two_cells h7
            obtain ⟨y0, y1, yf0, yf1⟩ := two_cells hb1'
            have sz' := hch'.size
            have z7 := (Array.getElem?_eq_some_iff.1 h7).1
            clear q1 q2 q3 q1a q2a q3a x0 x1 x0a x1a CA HODk HB7 HB1 HCH vw0
            rcases hr with ⟨rfl, d', hop, hi4, hh4, hod⟩ | ⟨rfl, hop⟩
            · have CB : Chg wk.heap.size (wk.heap.size + 1) wc ((wc.setCell ⟨wk.heap.size, 0, none⟩ (.slice r1 r2 r3)).setCell ⟨wk.heap.size, 1, none⟩ (.slice r4 r5 r6)) := Chg.set2 _ _ _ _
              have F1 : Hid (((wc.setCell ⟨wk.heap.size, 0, none⟩ (.slice r1 r2 r3)).setCell ⟨wk.heap.size, 1, none⟩ (.slice r4 r5 r6)).heap[wk.heap.size]? = some (.cells #[.slice r1 r2 r3, .slice r4 r5 r6] 29 (0, 0))) := heap_set2 h7 _ _
              have F3 : Hid (((wc.setCell ⟨wk.heap.size, 0, none⟩ (.slice r1 r2 r3)).setCell ⟨wk.heap.size, 1, none⟩ (.slice r4 r5 r6)).heap[w.heap.size + 1]? = some (.cells #[.slice none 0 0, .slice none 0 0] 29 (0, 0))) := (CB.block _ (by omega) (by omega)).trans hb1'
              have F4 : Hid (Chg 0 0 w ((wc.setCell ⟨wk.heap.size, 0, none⟩ (.slice r1 r2 r3)).setCell ⟨wk.heap.size, 1, none⟩ (.slice r4 r5 r6))) := hch'.step CB (Or.inr (Or.inl (by omega)))
              have F5 : Hid (OwnD ((wc.setCell ⟨wk.heap.size, 0, none⟩ (.slice r1 r2 r3)).setCell ⟨wk.heap.size, 1, none⟩ (.slice r4 r5 r6)) wb.heap.size hi4 55 5 (.agg #[.slice r1 r2 r3, .slice r4 r5 r6]) d') := hod.other CB h7 (by decide) (by decide)
              have F7 : Hid (hi4 ≤ ((wc.setCell ⟨wk.heap.size, 0, none⟩ (.slice r1 r2 r3)).setCell ⟨wk.heap.size, 1, none⟩ (.slice r4 r5 r6)).heap.size) := Nat.le_trans hh4 CB.size
              have F8 : Hid (runD d (fs.take (k + 1)) = some d' ∧ Valid d') := ⟨by rw [HR.out]; exact hop, opD_valid HVk.out hop⟩
              clear CB hod hop hh4 hn h7 hb1' hch' HR HVk
              go_wp2
              go_roundw
              case rel => exact ⟨k + 1, d', r1, r2, r3, r4, r5, r6, hi4, by omega, by go_num, F8.out.1, F8.out.2, F7.out, F5.out, F1.out, F3.out, F4.out⟩
              case measure => simp [intOf]; omega
            · have HF : Hid (doD d os limit = Dsk.none) := by
                show _ = _
                rw [HD.out, HFS.out, runD_none d fs (k + 1) (by rw [HR.out]; exact hop)]; rfl
              have HCf : Hid (Chg 0 0 w ((wc.setCell ⟨w.heap.size + 1, 0, none⟩ (.slice none 0 0)).setCell ⟨w.heap.size + 1, 1, none⟩ (.slice none 0 0))) := hch'.step (Chg.set2 _ _ _ _) (Or.inr (Or.inl (by omega)))
              clear hop hn h7 hb1' hch' HR HVk
              go_wp2
              refine bodyPost_ret (v := .agg #[.slice none 0 0, .slice none 0 0]) (by simp [results, Try.results33, go_sem, y0, y1]) rfl ⟨_, rfl, ?_, HCf.out⟩
              rw [HF.out]; exact OwnD.none _ _ _ _ _
      · obtain rfl : k = fs.length := by omega
        rw [List.take_length] at hrun
        have HF : Hid (doD d os limit = dk) := by show _ = _; rw [HD.out, HFS.out, hrun]; rfl
        have CB : Chg (w.heap.size + 1) (w.heap.size + 1 + 1) wr ((wr.setCell ⟨w.heap.size + 1, 0, none⟩ (.slice p1 p2 p3)).setCell ⟨w.heap.size + 1, 1, none⟩ (.slice p4 p5 p6)) := Chg.set2 _ _ _ _
        have HCf : Hid (Chg 0 0 w ((wr.setCell ⟨w.heap.size + 1, 0, none⟩ (.slice p1 p2 p3)).setCell ⟨w.heap.size + 1, 1, none⟩ (.slice p4 p5 p6))) := hch.step CB (Or.inr (Or.inl (by omega)))
        have HOf : Hid (OwnD ((wr.setCell ⟨w.heap.size + 1, 0, none⟩ (.slice p1 p2 p3)).setCell ⟨w.heap.size + 1, 1, none⟩ (.slice p4 p5 p6)) wb.heap.size hi3 55 5 (.agg #[.slice p1 p2 p3, .slice p4 p5 p6]) dk) := hod.other CB hb1 (by decide) (by decide)
        have HSf : Hid (((wr.setCell ⟨w.heap.size + 1, 0, none⟩ (.slice p1 p2 p3)).setCell ⟨w.heap.size + 1, 1, none⟩ (.slice p4 p5 p6)).heap.size = wr.heap.size) := by show _ = _; simp [World.setCell]
        obtain ⟨x0, x1, _, _⟩ := two_cells hb7
        obtain ⟨y0, y1, yf0, yf1⟩ := two_cells hb1
        have Hz : Hid (w.heap.size ≤ wb.heap.size ∧ hi3 ≤ wr.heap.size) := ⟨by omega, hh3⟩
        have hend : fs.length = os.length ∨ (fs.length < os.length ∧ 0 ≤ limit ∧ (fs.length : Int) = limit) := by have := hfl.2.2; have := hfl.1; omega
        clear CB hod hb7 hb1 hch hrun hval hfl hlt
        rcases hend with he | ⟨he1, he2, he3⟩
        · have hz : ¬ (fs.length : Int) < (os.length : Int) := by omega
          clear he
          go_wp2
          refine bodyPost_ret (v := .agg #[.slice p1 p2 p3, .slice p4 p5 p6]) (by simp [results, Try.results33, go_sem, y0, y1]) rfl ⟨_, rfl, ?_, HCf.out⟩
          rw [HF.out, HSf.out]; exact (HOf.out.lower Hz.out.1).upper Hz.out.2
        · have hz : (fs.length : Int) < (os.length : Int) := by omega
          have hz2 : ¬ limit < 0 := by omega
          have hz3 : ¬ (fs.length : Int) < limit := by omega
          clear he1 he2 he3
          go_wp2
          refine bodyPost_ret (v := .agg #[.slice p1 p2 p3, .slice p4 p5 p6]) (by simp [results, Try.results33, go_sem, y0, y1]) rfl ⟨_, rfl, ?_, HCf.out⟩
          rw [HF.out, HSf.out]; exact (HOf.out.lower Hz.out.1).upper Hz.out.2

end Go.Proofs.Ytplfehjaakkldaa

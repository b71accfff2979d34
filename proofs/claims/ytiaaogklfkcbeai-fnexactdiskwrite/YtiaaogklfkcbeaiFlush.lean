/- A settled device told as a disk; DiskFlush of the program. -/
import Derived.Test.YtiaaogklfkcbeaiImage
namespace Go.Proofs.Ytiaaogklfkcbeai
open Go.RowKit

set_option maxHeartbeats 1000000 in
theorem disk_empty (w : World) {base p : Nat} {d : Dsk} (h : Dev w base p d) (hp0 : d.pend = []) :
    Calls Try.prog 44 #[.pointer (some ⟨p, 0, none⟩)] w fun e w' => ∃ v, e = .returned v ∧ OwnD w' w.heap.size w'.heap.size 61 5 v d ∧ Chg 0 0 w w' := by
  obtain ⟨gD, po, cap, hv, hp, hgD, hbox, hdur, _⟩ := h.pend_ne
  rw [hp0] at hbox
  have hbox : w.heap[p]? = some (.cells #[.slice (some ⟨gD, 0, none⟩) (d.dur.length / 64) (d.dur.length / 64), .slice po 0 cap] 75 (0, 0)) := hbox
  have hpz : p < w.heap.size := (Array.getElem?_eq_some_iff.1 hbox).1
  have hgz : gD < w.heap.size := (Array.getElem?_eq_some_iff.1 hdur).1
  have h64 := hv.1
  have hn1 := hv.2.1
  have hn := hv.2.2.1
  have C0 : Chg 0 0 w (w.alloc (.cells #[.slice none 0 0, .slice none 0 0] 38)) := Chg.alloc (Chg.refl 0 0 w) _
  have B0 := heap_new w (.cells #[.slice none 0 0, .slice none 0 0] 38)
  have s0 : (w.alloc (.cells #[.slice none 0 0, .slice none 0 0] 38)).heap.size = w.heap.size + 1 := by simp
  have hdur0 := (C0.block gD hgz (by omega)).trans hdur
  have hbox0 := (C0.block p hpz (by omega)).trans hbox
  obtain ⟨b0, b1, _, _⟩ := two_cells hbox0
  have HP0 : Hid (d.pend = []) := hp0
  clear hdur hbox h hv hp0
  go_enter Try.func44, Try.ntmps44
  go_wp2_with fail
  generalize w.alloc (.cells #[.slice none 0 0, .slice none 0 0] 38) = wa at *
  refine (joined_calls _ gD _ d.dur hdur0 (by omega) hn1 hn).mono ?_
  rintro e wb ⟨g, rfl, ho, hb⟩
  rw [show d.dur.length / 64 * 64 = d.dur.length from by omega] at *
  have sb := hb.size
  have gb := ho.lt g rfl
  have B0 := (hb.block w.heap.size (by omega) (by omega)).trans B0
  have hbox1 := (hb.block p (by omega) (by omega)).trans hbox0
  have hB := C0.trans hb
  clear hb C0 hdur0 hbox0 b0 b1
  have C1 : Chg 0 0 wb (wb.alloc (.cells #[.slice (some ⟨g, 0, none⟩) d.dur.length d.dur.length, .slice none 0 0] 38)) := Chg.alloc (Chg.refl 0 0 wb) _
  have B2 := heap_new wb (.cells #[.slice (some ⟨g, 0, none⟩) d.dur.length d.dur.length, .slice none 0 0] 38)
  have B0 := (C1.block w.heap.size (by omega) (by omega)).trans B0
  have hbox2 := (C1.block p (by omega) (by omega)).trans hbox1
  have s2 : (wb.alloc (.cells #[.slice (some ⟨g, 0, none⟩) d.dur.length d.dur.length, .slice none 0 0] 38)).heap.size = wb.heap.size + 1 := by simp
  obtain ⟨b0, b1, _, _⟩ := two_cells hbox2
  obtain ⟨y0, y1, yf0, yf1⟩ := two_cells B0
  obtain ⟨u0, u1, _, _⟩ := two_cells B2
  have ho2 := (ho.chg C1 (by intro g' _; omega)).base (base' := w.heap.size) (fun g' hg' => by cases hg'; show w.heap.size ≤ g; omega)
  have hC := hB.trans C1
  clear hB C1 ho hbox1 hbox2 B2
  go_wp2
  generalize wb.alloc (.cells #[.slice (some ⟨g, 0, none⟩) d.dur.length d.dur.length, .slice none 0 0] 38) = wd at *
  have hgs : g < wd.heap.size := by omega
  have HO : Hid (OwnD ((wd.setCell ⟨w.heap.size, 0, none⟩ (.slice (some ⟨g, 0, none⟩) d.dur.length d.dur.length)).setCell ⟨w.heap.size, 1, none⟩ (.slice none 0 0)) w.heap.size wd.heap.size 61 5 (.agg #[.slice (some ⟨g, 0, none⟩) d.dur.length d.dur.length, .slice none 0 0]) d) := by
    have n1 : (Value.slice (some ⟨g, 0, none⟩) d.dur.length d.dur.length).ownBlock ≠ some w.heap.size := by simp [Value.ownBlock]; omega
    refine ⟨_, _, [], fun _ => .slice none 0 0, rfl, (ho2.set (p := ⟨w.heap.size, 0, none⟩) n1 _).set (p := ⟨w.heap.size, 1, none⟩) n1 _, by rw [HP0.out]; exact OwnPx.nil _ _ _ _, by rw [HP0.out]; simp, ?_, by simp [Value.ownBlock], by rw [HP0.out]; simp⟩
    intro g' hg'
    cases hg'
    exact hgs
  have HC : Hid (Chg 0 0 w ((wd.setCell ⟨w.heap.size, 0, none⟩ (.slice (some ⟨g, 0, none⟩) d.dur.length d.dur.length)).setCell ⟨w.heap.size, 1, none⟩ (.slice none 0 0))) := hC.step (Chg.set2 _ _ _ _) (by omega)
  have HS : Hid (((wd.setCell ⟨w.heap.size, 0, none⟩ (.slice (some ⟨g, 0, none⟩) d.dur.length d.dur.length)).setCell ⟨w.heap.size, 1, none⟩ (.slice none 0 0)).heap.size = wd.heap.size) := by show _ = _; simp [World.setCell]
  clear ho2 hC B0 HP0
  refine wp_loop_rounds 1 ?_; rw [rounds_succ]
  go_wp2
  refine bodyPost_ret (v := .agg #[.slice (some ⟨g, 0, none⟩) d.dur.length d.dur.length, .slice none 0 0]) (by simp [results, Try.results44, go_sem, y0, y1]) rfl ⟨_, rfl, ?_, HC.out⟩
  rw [HS.out]; exact HO.out

set_option maxHeartbeats 1000000 in
theorem implFlush_calls (w : World) {lo hi : Nat} {a : Value} {d : Dsk} (h1 : DView w lo hi a d) :
    Calls Try.prog 22 #[a] w fun e w' => ∃ v, e = .returned v ∧ OwnD w' w.heap.size w'.heap.size 61 5 v (flushD d) ∧ Chg 0 0 w w' := by
  have d0 := h1
  obtain ⟨dv, pv, rfl, v1, p1⟩ := h1
  obtain ⟨ao, cap, rfl, _, _, _⟩ := v1
  obtain ⟨po, pcap, rfl, _, _, _⟩ := p1
  obtain ⟨z1, z2, z3⟩ := alloc2 w (.cells #[.slice ao d.dur.length cap, .slice po d.pend.length pcap] 38) (.cells #[.slice none 0 0, .slice none 0 0] 38)
  have hA : Chg 0 0 w ((w.alloc (.cells #[.slice ao d.dur.length cap, .slice po d.pend.length pcap] 38)).alloc (.cells #[.slice none 0 0, .slice none 0 0] 38)) := (Chg.alloc (Chg.refl 0 0 w) _).alloc _
  have dA := d0.chg hA (by omega)
  go_enter Try.func22, Try.ntmps22
  go_wp2_with fail
  generalize (w.alloc (.cells #[.slice ao d.dur.length cap, .slice po d.pend.length pcap] 38)).alloc (.cells #[.slice none 0 0, .slice none 0 0] 38) = wa at *
  cases hV : validB d with
  | false =>
    refine (openDevice_no _ dA hV).mono ?_
    rintro e wb ⟨rfl, hb⟩
    have B1 := (hb.block (w.heap.size + 1) (by omega) (by omega)).trans z3
    obtain ⟨y0, y1, yf0, yf1⟩ := two_cells B1
    have hB := hA.trans hb
    have HC : Hid (Chg 0 0 w ((wb.setCell ⟨w.heap.size + 1, 0, none⟩ (.slice none 0 0)).setCell ⟨w.heap.size + 1, 1, none⟩ (.slice none 0 0))) := hB.step (Chg.set2 _ _ _ _) (by omega)
    have HF : Hid (flushD d = Dsk.none) := by show _ = _; unfold flushD; rw [if_neg (by rw [hV]; simp)]
    clear hA hb z2 z3 dA B1 hB d0 hV
    go_wp2
    refine bodyPost_ret (v := .agg #[.slice none 0 0, .slice none 0 0]) (by simp [results, Try.results22, go_sem, y0, y1]) rfl ⟨_, rfl, ?_, HC.out⟩
    rw [HF.out]; exact OwnD.none _ _ _ _ _
  | true =>
    have hVal := (validB_iff d).1 hV
    have HF : Hid (flushD d = setD (fun _ => true) d) := by show _ = _; unfold flushD; rw [if_pos hV]
    refine (openDevice_yes _ dA hVal).mono ?_
    rintro e wb ⟨p, rfl, hdev, hb⟩
    have sb := hb.size
    have B1 := (hb.block (w.heap.size + 1) (by omega) (by omega)).trans z3
    have hB := hA.trans hb
    clear hA hb z2 z3 dA d0 hV hVal
    go_wp2_with fail
    refine (flush_calls _ hdev).mono ?_
    rintro e wc ⟨rfl, hdev2, hc⟩
    have sc := hc.size
    have B1 := (hc.block (w.heap.size + 1) (by omega) (by omega)).trans B1
    have hC : Chg 0 0 w wc := hB.step hc (by omega)
    clear hc hB hdev
    go_wp2_with fail
    refine (disk_empty _ hdev2 rfl).mono ?_
    rintro e wd ⟨v, rfl, od, hd⟩
    have sd := hd.size
    have B1 := (hd.block (w.heap.size + 1) (by omega) (by omega)).trans B1
    obtain ⟨y0, y1, yf0, yf1⟩ := two_cells B1
    have hD := hC.trans hd
    obtain ⟨a1, l1, c1, a1', l1', c1', rfl⟩ := od.agg
    have HC : Hid (Chg 0 0 w ((wd.setCell ⟨w.heap.size + 1, 0, none⟩ (.slice a1 l1 c1)).setCell ⟨w.heap.size + 1, 1, none⟩ (.slice a1' l1' c1'))) := hD.step (Chg.set2 _ _ _ _) (by omega)
    have HO : Hid (OwnD ((wd.setCell ⟨w.heap.size + 1, 0, none⟩ (.slice a1 l1 c1)).setCell ⟨w.heap.size + 1, 1, none⟩ (.slice a1' l1' c1')) wc.heap.size wd.heap.size 61 5 (.agg #[.slice a1 l1 c1, .slice a1' l1' c1']) (setD (fun _ => true) d)) := od.chg (Chg.set2 _ _ _ _) (by omega)
    have HS : Hid (((wd.setCell ⟨w.heap.size + 1, 0, none⟩ (.slice a1 l1 c1)).setCell ⟨w.heap.size + 1, 1, none⟩ (.slice a1' l1' c1')).heap.size = wd.heap.size) := by show _ = _; simp [World.setCell]
    clear hd hC hD od B1 hdev2
    go_wp2
    refine bodyPost_ret (v := .agg #[.slice a1 l1 c1, .slice a1' l1' c1']) (by simp [results, Try.results22, go_sem, y0, y1]) rfl ⟨_, rfl, ?_, HC.out⟩
    rw [HF.out, HS.out]; exact HO.out.lower (by omega)
end Go.Proofs.Ytiaaogklfkcbeai

/- A settled device told as a disk; DiskFlush of the program. -/
import Derived.Test.YtplfehjaakkldaaJoin
namespace Go.Proofs.Ytplfehjaakkldaa
open Go.RowKit

set_option maxRecDepth 20000 in
set_option maxHeartbeats 1000000 in
theorem disk_empty (w : World) {base p : Nat} {d : Dsk} (h : Dev w base p d) (hp0 : d.pend = []) :
    Calls Try.prog 52 #[.pointer (some ⟨p, 0, none⟩)] w fun e w' => ∃ v, e = .returned v ∧ OwnD w' w.heap.size w'.heap.size 55 5 v d ∧ Chg 0 0 w w' := by
  obtain ⟨gD, po, cap, hv, hp, hgD, hbox, hdur, _⟩ := h.pend_ne
  rw [hp0] at hbox
  have hbox : w.heap[p]? = some (.cells #[.slice (some ⟨gD, 0, none⟩) (d.dur.length / 64) (d.dur.length / 64), .slice po 0 cap] 79 (0, 0)) := hbox
  have hpz : p < w.heap.size := (Array.getElem?_eq_some_iff.1 hbox).1
  have hgz : gD < w.heap.size := (Array.getElem?_eq_some_iff.1 hdur).1
  have h64 := hv.1
  have hn1 := hv.2.1
  have hn := hv.2.2.1
  have C0 : Chg 0 0 w (w.alloc (.cells #[.slice none 0 0, .slice none 0 0] 29)) := Chg.alloc (Chg.refl 0 0 w) _
  have B0 := heap_new w (.cells #[.slice none 0 0, .slice none 0 0] 29)
  have s0 : (w.alloc (.cells #[.slice none 0 0, .slice none 0 0] 29)).heap.size = w.heap.size + 1 := by simp
  have hdur0 := (C0.block gD hgz (by omega)).trans hdur
  have hbox0 := (C0.block p hpz (by omega)).trans hbox
  obtain ⟨b0, b1, _, _⟩ := two_cells hbox0
  have HP0 : Hid (d.pend = []) := hp0
  clear hdur hbox h hv hp0
  go_enter Try.func52, Try.ntmps52
  go_wp2_with fail
  generalize w.alloc (.cells #[.slice none 0 0, .slice none 0 0] 29) = wa at *
  refine (joined_calls _ gD _ d.dur hdur0 (by omega) hn1 hn).mono ?_
  rintro e wb ⟨g, rfl, ho, hb⟩
  rw [show d.dur.length / 64 * 64 = d.dur.length from by omega] at *
  have sb := hb.size
  have gb := ho.lt g rfl
  have B0 := (hb.block w.heap.size (by omega) (by omega)).trans B0
  have hbox1 := (hb.block p (by omega) (by omega)).trans hbox0
  have hB := C0.trans hb
  clear hb C0 hdur0 hbox0 b0 b1
  have C1 : Chg 0 0 wb (wb.alloc (.cells #[.slice (some ⟨g, 0, none⟩) d.dur.length d.dur.length, .slice none 0 0] 29)) := Chg.alloc (Chg.refl 0 0 wb) _
  have B2 := heap_new wb (.cells #[.slice (some ⟨g, 0, none⟩) d.dur.length d.dur.length, .slice none 0 0] 29)
  have B0 := (C1.block w.heap.size (by omega) (by omega)).trans B0
  have hbox2 := (C1.block p (by omega) (by omega)).trans hbox1
  have s2 : (wb.alloc (.cells #[.slice (some ⟨g, 0, none⟩) d.dur.length d.dur.length, .slice none 0 0] 29)).heap.size = wb.heap.size + 1 := by simp
  obtain ⟨b0, b1, _, _⟩ := two_cells hbox2
  obtain ⟨y0, y1, yf0, yf1⟩ := two_cells B0
  obtain ⟨u0, u1, _, _⟩ := two_cells B2
  have ho2 := (ho.chg C1 (by intro g' _; omega)).base (base' := w.heap.size) (fun g' hg' => by cases hg'; show w.heap.size ≤ g; omega)
  have hC := hB.trans C1
  clear hB C1 ho hbox1 hbox2 B2
  go_wp2
  generalize wb.alloc (.cells #[.slice (some ⟨g, 0, none⟩) d.dur.length d.dur.length, .slice none 0 0] 29) = wd at *
  have hgs : g < wd.heap.size := by omega
  have HO : Hid (OwnD ((wd.setCell ⟨w.heap.size, 0, none⟩ (.slice (some ⟨g, 0, none⟩) d.dur.length d.dur.length)).setCell ⟨w.heap.size, 1, none⟩ (.slice none 0 0)) w.heap.size wd.heap.size 55 5 (.agg #[.slice (some ⟨g, 0, none⟩) d.dur.length d.dur.length, .slice none 0 0]) d) := by
    have n1 : (Value.slice (some ⟨g, 0, none⟩) d.dur.length d.dur.length).ownBlock ≠ some w.heap.size := by simp [Value.ownBlock]; omega
    refine ⟨_, _, [], fun _ => .slice none 0 0, rfl, (ho2.set (p := ⟨w.heap.size, 0, none⟩) n1 _).set (p := ⟨w.heap.size, 1, none⟩) n1 _, by rw [HP0.out]; exact OwnPx.nil _ _ _ _, by rw [HP0.out]; simp, ?_, by simp [Value.ownBlock], by rw [HP0.out]; simp⟩
    intro g' hg'
    cases hg'
    exact hgs
  have HC : Hid (Chg 0 0 w ((wd.setCell ⟨w.heap.size, 0, none⟩ (.slice (some ⟨g, 0, none⟩) d.dur.length d.dur.length)).setCell ⟨w.heap.size, 1, none⟩ (.slice none 0 0))) := hC.step (Chg.set2 _ _ _ _) (by omega)
  have HS : Hid (((wd.setCell ⟨w.heap.size, 0, none⟩ (.slice (some ⟨g, 0, none⟩) d.dur.length d.dur.length)).setCell ⟨w.heap.size, 1, none⟩ (.slice none 0 0)).heap.size = wd.heap.size) := by show _ = _; simp [World.setCell]
  clear ho2 hC B0 HP0
  refine wp_loop_rounds 1 ?_; rw [rounds_succ]
  go_wp2
  refine bodyPost_ret (v := .agg #[.slice (some ⟨g, 0, none⟩) d.dur.length d.dur.length, .slice none 0 0]) (by simp [results, Try.results52, go_sem, y0, y1]) rfl ⟨_, rfl, ?_, HC.out⟩
  rw [HS.out]; exact HO.out

end Go.Proofs.Ytplfehjaakkldaa

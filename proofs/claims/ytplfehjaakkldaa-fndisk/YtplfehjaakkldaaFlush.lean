/- DiskFlush of the program. -/
import Derived.Test.YtplfehjaakkldaaFlushE
import Derived.Test.YtplfehjaakkldaaImage
namespace Go.Proofs.Ytplfehjaakkldaa
open Go.RowKit

set_option maxRecDepth 20000 in
set_option maxHeartbeats 1000000 in
theorem implFlush_calls (w : World) {lo hi : Nat} {a : Value} {d : Dsk} (h1 : DView w lo hi a d) :
    Calls Try.prog 20 #[a] w fun e w' => ∃ v, e = .returned v ∧ OwnD w' w.heap.size w'.heap.size 55 5 v (flushD d) ∧ Chg 0 0 w w' := by
  have d0 := h1
  obtain ⟨dv, pv, rfl, v1, p1⟩ := h1
  obtain ⟨ao, cap, rfl, _, _, _⟩ := v1
  obtain ⟨po, pcap, rfl, _, _, _⟩ := p1
  obtain ⟨z1, z2, z3⟩ := alloc2 w (.cells #[.slice ao d.dur.length cap, .slice po d.pend.length pcap] 29) (.cells #[.slice none 0 0, .slice none 0 0] 29)
  have hA : Chg 0 0 w ((w.alloc (.cells #[.slice ao d.dur.length cap, .slice po d.pend.length pcap] 29)).alloc (.cells #[.slice none 0 0, .slice none 0 0] 29)) := (Chg.alloc (Chg.refl 0 0 w) _).alloc _
  have dA := d0.chg hA (by omega)
  go_enter Try.func20, Try.ntmps20
  go_wp2_with fail
  generalize (w.alloc (.cells #[.slice ao d.dur.length cap, .slice po d.pend.length pcap] 29)).alloc (.cells #[.slice none 0 0, .slice none 0 0] 29) = wa at *
  cases hV : validB d with
  | false =>
    refine (openDevice_no _ dA hV).mono ?_
    rintro e wb ⟨rfl, hb⟩
    have B1 := (hb.block (w.heap.size + 1) (by omega) (by omega)).trans z3
    obtain ⟨y0, y1, yf0, yf1⟩ := two_cells B1
    have hB := hA.trans hb
    have HC : Hid (Chg 0 0 w ((wb.setCell ⟨w.heap.size + 1, 0, none⟩ (.slice none 0 0)).setCell ⟨w.heap.size + 1, 1, none⟩ (.slice none 0 0))) := hB.step (Chg.set2 _ _ _ _) (by omega)
    have HF : Hid (flushD d = Dsk.none) := by show _ = _; unfold flushD; rw [if_neg (by rw [hV]; simp)]
    clear hA hb z2 z3 dA B1 hB d0 hV
    go_wp2
    refine bodyPost_ret (v := .agg #[.slice none 0 0, .slice none 0 0]) (by simp [results, Try.results20, go_sem, y0, y1]) rfl ⟨_, rfl, ?_, HC.out⟩
    rw [HF.out]; exact OwnD.none _ _ _ _ _
  | true =>
    have hVal := (validB_iff d).1 hV
    have HF : Hid (flushD d = setD (fun _ => true) d) := by show _ = _; unfold flushD; rw [if_pos hV]
    refine (openDevice_yes _ dA hVal).mono ?_
    rintro e wb ⟨p, rfl, hdev, hb⟩
    have sb := hb.size
    have B1 := (hb.block (w.heap.size + 1) (by omega) (by omega)).trans z3
    have hB := hA.trans hb
    clear hA hb z2 z3 dA d0 hV hVal
    go_wp2_with fail
    refine (flush_calls _ hdev).mono ?_
    rintro e wc ⟨rfl, hdev2, hc⟩
    have sc := hc.size
    have B1 := (hc.block (w.heap.size + 1) (by omega) (by omega)).trans B1
    have hC : Chg 0 0 w wc := hB.step hc (by omega)
    clear hc hB hdev
    go_wp2_with fail
    refine (disk_empty _ hdev2 rfl).mono ?_
    rintro e wd ⟨v, rfl, od, hd⟩
    have sd := hd.size
    have B1 := (hd.block (w.heap.size + 1) (by omega) (by omega)).trans B1
    obtain ⟨y0, y1, yf0, yf1⟩ := two_cells B1
    have hD := hC.trans hd
    obtain ⟨a1, l1, c1, a1', l1', c1', rfl⟩ := od.agg
    have HC : Hid (Chg 0 0 w ((wd.setCell ⟨w.heap.size + 1, 0, none⟩ (.slice a1 l1 c1)).setCell ⟨w.heap.size + 1, 1, none⟩ (.slice a1' l1' c1'))) := hD.step (Chg.set2 _ _ _ _) (by omega)
    have HO : Hid (OwnD ((wd.setCell ⟨w.heap.size + 1, 0, none⟩ (.slice a1 l1 c1)).setCell ⟨w.heap.size + 1, 1, none⟩ (.slice a1' l1' c1')) wc.heap.size wd.heap.size 55 5 (.agg #[.slice a1 l1 c1, .slice a1' l1' c1']) (setD (fun _ => true) d)) := od.chg (Chg.set2 _ _ _ _) (by omega)
    have HS : Hid (((wd.setCell ⟨w.heap.size + 1, 0, none⟩ (.slice a1 l1 c1)).setCell ⟨w.heap.size + 1, 1, none⟩ (.slice a1' l1' c1')).heap.size = wd.heap.size) := by show _ = _; simp [World.setCell]
    clear hd hC hD od B1 hdev2
    go_wp2
    refine bodyPost_ret (v := .agg #[.slice a1 l1 c1, .slice a1' l1' c1']) (by simp [results, Try.results20, go_sem, y0, y1]) rfl ⟨_, rfl, ?_, HC.out⟩
    rw [HF.out, HS.out]; exact HO.out.lower (by omega)
end Go.Proofs.Ytplfehjaakkldaa

/- DiskImage of the model. -/
import Derived.Test.YtplfehjaakkldaaImage
import Derived.Test.YtplfehjaakkldaaSpecFlush
namespace Go.Proofs.Ytplfehjaakkldaa
open Go.RowKit

theorem field_dur (w : World) (a : Option Addr) (l c : Nat) (y : Value) : (Instr.field 29 (.agg #[.slice a l c, y]) 0).run Try.prog w = .ok (.slice a l c) w := by
  simp [Instr.field, run_underlying Try.underlying29, asAgg, part, isAgg, run_underlying Try.underlying22]

set_option maxRecDepth 20000 in
set_option maxHeartbeats 1000000 in
theorem specImage_calls (w : World) {lo hi : Nat} {a : Value} {d : Dsk} (h1 : DView w lo hi a d) (hlo : hi ≤ w.heap.size) (hf : d.dur.length ≤ 1048576) :
    Calls Try.prog 21 #[a] w fun e w' => ∃ v, e = .returned v ∧ OwnB w' w.heap.size 5 v (imageD d) ∧ Chg 0 0 w w' := by
  have d0 := h1
  obtain ⟨dv, pv, rfl, v1, p1⟩ := h1
  obtain ⟨ao, cap, rfl, _, _, _⟩ := v1
  obtain ⟨po, pcap, rfl, _, _, _⟩ := p1
  have B0 := heap_new w (.cells #[.slice ao d.dur.length cap, .slice po d.pend.length pcap] 29)
  have C0 : Chg 0 0 w (w.alloc (.cells #[.slice ao d.dur.length cap, .slice po d.pend.length pcap] 29)) := Chg.alloc (Chg.refl 0 0 w) _
  have s0 : w.heap.size < (w.alloc (.cells #[.slice ao d.dur.length cap, .slice po d.pend.length pcap] 29)).heap.size := by simp
  have dA := d0.chg C0 (by omega)
  have O0 : ∀ W : World, (W.alloc (.cells #[] 5)).ownsRow W.heap.size 5 1 (.slice (some ⟨W.heap.size, 0, none⟩) 0 0) 0 [] := by
    intro W
    have := World.ownsRow_lit (base := W.heap.size) (e := 5) (size := 1) W #[] 0 (Nat.le_refl _) (by unfold maxLen; omega) rfl
    simpa using this
  have HO0 : Hid (∀ W : World, (W.alloc (.cells #[] 5)).ownsRow W.heap.size 5 1 (.slice (some ⟨W.heap.size, 0, none⟩) 0 0) 0 []) := O0
  clear O0 d0
  go_enter Try.func21, Try.ntmps21
  go_wp2_with fail
  generalize w.alloc (.cells #[.slice ao d.dur.length cap, .slice po d.pend.length pcap] 29) = wa at *
  refine (specValid_calls _ dA).mono ?_
  rintro e w1 ⟨rfl, hc⟩
  have s1 := hc.size
  have B1 := (hc.block w.heap.size (by omega) (by omega)).trans B0
  have hch := C0.trans hc
  have d1 := dA.chg hc (by omega)
  obtain ⟨x0, x1, _, _⟩ := two_cells B1
  clear hc C0 dA B0
  cases hV : validB d with
  | false =>
    have HF : Hid (imageD d = []) := by show _ = _; unfold imageD; rw [if_neg (by rw [hV]; simp)]
    have hsz := hch.size
    clear hV d1 B1
    go_wp2
    go_ret
    exact ⟨_, rfl, by rw [HF.out]; exact OwnB.base (HO0.out w1) (fun g hg => by cases hg; exact hsz), hch.alloc _⟩
  | true =>
    have HF : Hid (imageD d = (flushD d).dur) := by show _ = _; unfold imageD flushD; rw [if_pos hV, if_pos hV]
    clear hV HO0
    go_wp2_with fail
    refine (specFlush_calls _ d1 (by omega) hf).mono ?_
    rintro e w2 ⟨v, rfl, od, hc2⟩
    have hch2 := hch.trans hc2
    have s2 := hch.size
    obtain ⟨dv, pv, cells, dvs, hx⟩ := od
    obtain ⟨rfl, hdur, hpend, h5, h6, h7, h8⟩ := hx
    clear h5 h6 h7 h8
    obtain ⟨da, dl, dc, rfl⟩ := row_slice hdur
    obtain ⟨pa, pl, pc, rfl⟩ := row_slice hpend.row
    have HO : Hid (OwnB w2 w.heap.size 5 (.slice da dl dc) (imageD d)) := by rw [HF.out]; exact hdur.base (fun g' hg' => Nat.le_trans s2 (hdur.lt g' hg').1)
    clear hc2 hch d1 hdur hpend B1 x0 x1
    have hfd := fun W => field_dur W da dl dc (.slice pa pl pc)
    go_wp2
    go_ret
    exact ⟨_, rfl, HO.out, hch2⟩
end Go.Proofs.Ytplfehjaakkldaa

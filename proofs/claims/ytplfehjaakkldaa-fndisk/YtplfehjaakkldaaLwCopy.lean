/- lwCopyDisk of the laws. -/
import Derived.Test.YtplfehjaakkldaaCopyDisk
import Derived.Test.YtplfehjaakkldaaAppOwn
namespace Go.Proofs.Ytplfehjaakkldaa
open Go.RowKit

set_option maxRecDepth 20000 in
set_option maxHeartbeats 4000000 in
theorem lwCopyDisk_calls (w : World) {lo hi : Nat} {a : Value} {d : Dsk} (h1 : DView w lo hi a d) (hf : d.dur.length ≤ 1048576) (hpl : d.pend.length ≤ 1000) (hdl : ∀ i, i < d.pend.length → (d.pend.getD i (0, [])).2.length ≤ 1048576) :
    Calls Try.prog 32 #[a] w fun e w' => ∃ v, e = .returned v ∧ OwnD w' w.heap.size w'.heap.size 55 5 v d ∧ Chg 0 0 w w' := by
  have d0 := h1
  obtain ⟨dv, pv, rfl, v1, p1⟩ := h1
  have v0 := v1
  obtain ⟨ao, cap, rfl, _, _, _⟩ := v1
  obtain ⟨po, pcap, rfl, _, _, hpc⟩ := p1
  obtain ⟨z1, z2, z3⟩ := alloc2 w (.cells #[.slice ao d.dur.length cap, .slice po d.pend.length pcap] 29) (.cells #[.slice none 0 0, .slice none 0 0] 29)
  have hB : Chg 0 0 w ((w.alloc (.cells #[.slice ao d.dur.length cap, .slice po d.pend.length pcap] 29)).alloc (.cells #[.slice none 0 0, .slice none 0 0] 29)) := (Chg.alloc (Chg.refl 0 0 w) _).alloc _
  have vb := v0.chg hB (by omega)
  obtain ⟨x0, x1, _, _⟩ := two_cells z2
  have HDL : Hid (∀ i, i < d.pend.length → (d.pend.getD i (0, [])).2.length ≤ 1048576) := hdl
  have C5 : Chg 0 0 ((w.alloc (.cells #[.slice ao d.dur.length cap, .slice po d.pend.length pcap] 29)).alloc (.cells #[.slice none 0 0, .slice none 0 0] 29)) (((w.alloc (.cells #[.slice ao d.dur.length cap, .slice po d.pend.length pcap] 29)).alloc (.cells #[.slice none 0 0, .slice none 0 0] 29)).alloc (.cells #[] 5)) := Chg.alloc (Chg.refl 0 0 _) _
  have HO5 : Hid (OwnB (((w.alloc (.cells #[.slice ao d.dur.length cap, .slice po d.pend.length pcap] 29)).alloc (.cells #[.slice none 0 0, .slice none 0 0] 29)).alloc (.cells #[] 5)) (w.heap.size + 2) 5 (.slice (some ⟨w.heap.size + 2, 0, none⟩) 0 0) []) := by
    show OwnB _ _ _ _ _
    have := World.ownsRow_lit (base := w.heap.size + 2) (e := 5) (size := 1) ((w.alloc (.cells #[.slice ao d.dur.length cap, .slice po d.pend.length pcap] 29)).alloc (.cells #[.slice none 0 0, .slice none 0 0] 29)) #[] 0 (by omega) (by unfold maxLen; omega) rfl
    rw [z1] at this
    simpa [OwnB] using this
  have x0' : (((w.alloc (.cells #[.slice ao d.dur.length cap, .slice po d.pend.length pcap] 29)).alloc (.cells #[.slice none 0 0, .slice none 0 0] 29)).alloc (.cells #[] 5)).cell? ⟨w.heap.size, 0, none⟩ = some (.slice ao d.dur.length cap) := C5.cell x0 (by omega)
  have bs5 : w.heap.size + 2 ≤ (((w.alloc (.cells #[.slice ao d.dur.length cap, .slice po d.pend.length pcap] 29)).alloc (.cells #[.slice none 0 0, .slice none 0 0] 29)).alloc (.cells #[] 5)).heap.size := by simp
  have hB5 := hB.trans C5
  have vb5 := vb.chg C5 (by omega)
  have z25 := (C5.block w.heap.size (by omega) (by omega)).trans z2
  have z35 := (C5.block (w.heap.size + 1) (by omega) (by omega)).trans z3
  have e2 : w.heap.size + 1 + 1 = w.heap.size + 2 := rfl
  clear hB vb z2 z3
  go_enter Try.func32, Try.ntmps32
  go_wp2_with (at_builtin; refine wpList_app_own rfl (.tmp 5) (.tmp 7) rfl (w.heap.size + 2) rfl (w.heap.size + 2) HO5.out bs5 _ _ _ d.dur rfl vb5 hf ?_)
  intro v' wc h1 h2 h3
  generalize ((w.alloc (.cells #[.slice ao d.dur.length cap, .slice po d.pend.length pcap] 29)).alloc (.cells #[.slice none 0 0, .slice none 0 0] 29)).alloc (.cells #[] 5) = wb at *
  have hc := h3
  have hB := hB5
  have z2 := z25
  have z3 := z35
  obtain ⟨g, ⟨gcap, rfl⟩, _⟩ := h2.out
  have gb := h1.lt g rfl
  have oc := h1
  have sc := hc.size
  have B0 := (hc.block w.heap.size (by omega) (by omega)).trans z2
  have B1 := (hc.block (w.heap.size + 1) (by omega) (by omega)).trans z3
  have hC := hB.trans hc
  have C1 : Chg 0 0 wc (wc.alloc (.cells #[.slice (some ⟨g, 0, none⟩) d.dur.length gcap, .slice none 0 0] 29)) := Chg.alloc (Chg.refl 0 0 wc) _
  have B2 := heap_new wc (.cells #[.slice (some ⟨g, 0, none⟩) d.dur.length gcap, .slice none 0 0] 29)
  have sD : (wc.alloc (.cells #[.slice (some ⟨g, 0, none⟩) d.dur.length gcap, .slice none 0 0] 29)).heap.size = wc.heap.size + 1 := by simp
  clear hB hc x0 x1 x0' vb5 v0 d0 z2 z3 z25 z35 hB5 C5 HO5 bs5 h1 h3 h2
  go_wp2
  generalize wc.alloc (.cells #[.slice (some ⟨g, 0, none⟩) d.dur.length gcap, .slice none 0 0] 29) = wd at *
  have B0 := (C1.block w.heap.size (by omega) (by omega)).trans B0
  have B1 := (C1.block (w.heap.size + 1) (by omega) (by omega)).trans B1
  have hD := hC.trans C1
  have HT0 : Hid (ToldV wd (w.heap.size + 2) wc.heap.size (.slice (some ⟨g, 0, none⟩) d.dur.length gcap) d.dur []) :=
    ⟨.slice none 0 0, [], fun _ => .slice none 0 0, B2, (oc.chg C1 (by intro g' _; omega)).base (fun g' hg' => by cases hg'; show w.heap.size + 2 ≤ g; omega), OwnPx.nil _ _ _ _, by simp⟩
  have HP : Hid (∀ k, k < d.pend.length → ∃ pb poff dao dcap, po = some ⟨pb, poff, none⟩ ∧ pb < w.heap.size ∧ w.cell? ⟨pb, poff + k * 2, none⟩ = some (.int .i64 (d.pend.getD k (0, [])).1) ∧ w.cell? ⟨pb, poff + k * 2 + 1, none⟩ = some (.slice dao (d.pend.getD k (0, [])).2.length dcap) ∧ View w lo hi .u8 (.slice dao (d.pend.getD k (0, [])).2.length dcap) (d.pend.getD k (0, [])).2) := by
    intro k hk
    rcases hpc with e | ⟨pb, poff, e, _, _, h⟩
    · rw [e] at hk; simp at hk
    · obtain ⟨dv, c1, c2, vw⟩ := h k hk
      have vw' := vw
      obtain ⟨dao, dcap, rfl, _⟩ := vw'
      exact ⟨pb, poff, dao, dcap, e, lt_of_cell c1, c1, c2, vw⟩
  have hm := hpl
  have HC : Hid (Chg 0 0 w wd) := hD
  have HB0 : Hid (wd.heap[w.heap.size]? = some (.cells #[.slice ao d.dur.length cap, .slice po d.pend.length pcap] 29 (0, 0))) := B0
  have HB1 : Hid (wd.heap[w.heap.size + 1]? = some (.cells #[.slice none 0 0, .slice none 0 0] 29 (0, 0))) := B1
  clear hpc hC C1 oc hD B0 B1 B2
  go_loopw [4] (fun i wr => ∃ k : Nat, k ≤ d.pend.length ∧ i = .int .i64 k ∧ Chg 0 0 w wr ∧ wd.heap.size ≤ wr.heap.size ∧ wr.heap[w.heap.size]? = some (.cells #[.slice ao d.dur.length cap, .slice po d.pend.length pcap] 29 (0, 0)) ∧ wr.heap[w.heap.size + 1]? = some (.cells #[.slice none 0 0, .slice none 0 0] 29 (0, 0)) ∧ ToldV wr (w.heap.size + 2) wc.heap.size (.slice (some ⟨g, 0, none⟩) d.dur.length gcap) d.dur (d.pend.take k)) (fun i _ => d.pend.length - (intOf i).toNat)
  case atStart => exact ⟨0, Nat.zero_le _, rfl, HC.out, Nat.le_refl _, HB0.out, HB1.out, by simpa using HT0.out⟩
  case round =>
    obtain ⟨k, hk, rfl, hcw, hsz, hI, hR, pv, cells, dvs, hB, hD, hP, hA⟩ := hrel
    by_cases hlt : k < d.pend.length
    · obtain ⟨pb, poff, dao, dcap, rfl, hpb, c1w, c2w, vww⟩ := HP.out k hlt
      have hx64 := HDL.out k hlt
      have htk : d.pend.take (k + 1) = d.pend.take k ++ [d.pend.getD k (0, [])] := by
        rw [List.take_add_one, List.getD_eq_getElem?_getD, List.getElem?_eq_getElem hlt]; rfl
      have hlk : (d.pend.take k).length = k := by rw [List.length_take]; omega
      obtain ⟨po', pl, pc, rfl⟩ := row_slice hP.row
      generalize d.pend.getD k (0, []) = pr at *
      obtain ⟨q, xs⟩ := pr
      simp only at hx64 c1w c2w vww
      have Hx64 : Hid (xs.length ≤ 1048576) := hx64
      clear hx64
      have HB : Hid (wr.heap[wc.heap.size]? = some (.cells #[.slice (some ⟨g, 0, none⟩) d.dur.length gcap, .slice po' pl pc] 29 (0, 0))) := hB
      have HD : Hid (OwnB wr (w.heap.size + 2) 5 (.slice (some ⟨g, 0, none⟩) d.dur.length gcap) d.dur) := hD
      have HPx : Hid (OwnPx wr (w.heap.size + 2) 55 5 (.slice po' pl pc) (d.pend.take k) cells dvs) := hP
      have HA : Hid (∀ i j, i < (d.pend.take k).length → (Value.slice (some ⟨g, 0, none⟩) d.dur.length gcap).ownBlock = some j → (dvs i).ownBlock ≠ some j) := hA
      have HRr : Hid (wr.heap[w.heap.size + 1]? = some (.cells #[.slice none 0 0, .slice none 0 0] 29 (0, 0))) := hR
      have HI : Hid (wr.heap[w.heap.size]? = some (.cells #[.slice ao d.dur.length cap, .slice (some ⟨pb, poff, none⟩) d.pend.length pcap] 29 (0, 0))) := hI
      have HCw : Hid (Chg 0 0 w wr) := hcw
      have VX : Hid (View wr lo hi .u8 (.slice dao xs.length dcap) xs) := vww.chg hcw (by omega)
      have HS : Hid ((fun w' : World => w'.cell? ⟨wc.heap.size, 1, none⟩ = some (.slice po' pl pc) ∧ w'.cell? ⟨w.heap.size, 1, none⟩ = some (.slice (some ⟨pb, poff, none⟩) d.pend.length pcap) ∧ w'.cell? ⟨pb, poff + k * 2, none⟩ = some (.int .i64 q) ∧ w'.cell? ⟨pb, poff + k * 2 + 1, none⟩ = some (.slice dao xs.length dcap)) wr.drew) := ⟨(two_cells hB).2.1, (two_cells hI).2.1, hcw.cell c1w (by omega), hcw.cell c2w (by omega)⟩
      have x1 := (two_cells hI).2.1
      have hik : (k : Int) < (d.pend.length : Int) := by omega
      clear hB hD hP hA hR hI hcw c1w c2w vww HP HDL
      go_wp2
      refine weak_region 20 (fun w' : World => w'.cell? ⟨wc.heap.size, 1, none⟩ = some (.slice po' pl pc) ∧ w'.cell? ⟨w.heap.size, 1, none⟩ = some (.slice (some ⟨pb, poff, none⟩) d.pend.length pcap) ∧ w'.cell? ⟨pb, poff + k * 2, none⟩ = some (.int .i64 q) ∧ w'.cell? ⟨pb, poff + k * 2 + 1, none⟩ = some (.slice dao xs.length dcap)) (by kernel_rfl) ?_
      clear x1
      refine weak_take 0 (.pointer (some ⟨wc.heap.size, 1, none⟩)) rfl (by kernel_rfl) (by kernel_rfl) (by kernel_rfl) (by kernel_rfl) (fun _ _ _ h => h) (.inl ⟨by kernel_rfl, fun w' hw' => by go_simp⟩) HS.out ?_
      go_simp
      refine weak_take 1 (.slice po' pl pc) rfl (by kernel_rfl) (by kernel_rfl) (by kernel_rfl) (by kernel_rfl) (fun _ _ _ h => h) (.inl ⟨by kernel_rfl, fun w' hw' => by have h4 := hw'.1; go_simp⟩) HS.out ?_
      go_simp
      refine weak_take 2 (.pointer (some ⟨w.heap.size, 1, none⟩)) rfl (by kernel_rfl) (by kernel_rfl) (by kernel_rfl) (by kernel_rfl) (fun _ _ _ h => h) (.inl ⟨by kernel_rfl, fun w' hw' => by go_simp⟩) HS.out ?_
      go_simp
      refine weak_take 3 (.slice (some ⟨pb, poff, none⟩) d.pend.length pcap) rfl (by kernel_rfl) (by kernel_rfl) (by kernel_rfl) (by kernel_rfl) (fun _ _ _ h => h) (.inl ⟨by kernel_rfl, fun w' hw' => by have h4 := hw'.2.1; go_simp⟩) HS.out ?_
      go_simp
      refine weak_take 4 (.int .i64 (k : Int)) rfl (by kernel_rfl) (by kernel_rfl) (by kernel_rfl) (by kernel_rfl) (fun _ _ _ h => h) (.inl ⟨by kernel_rfl, fun w' hw' => by go_simp⟩) HS.out ?_
      go_simp
      refine weak_take 5 (.pointer (some ⟨pb, poff + k * 2, none⟩)) rfl (by kernel_rfl) (by kernel_rfl) (by kernel_rfl) (by kernel_rfl) (fun _ _ _ h => h) (.inl ⟨by kernel_rfl, fun w' hw' => by go_simp⟩) HS.out ?_
      go_simp
      refine weak_take 6 (.pointer (some ⟨pb, poff + k * 2, none⟩)) rfl (by kernel_rfl) (by kernel_rfl) (by kernel_rfl) (by kernel_rfl) (fun _ _ _ h => h) (.inl ⟨by kernel_rfl, fun w' hw' => by go_simp⟩) HS.out ?_
      go_simp
      refine weak_take 7 (.int .i64 q) rfl (by kernel_rfl) (by kernel_rfl) (by kernel_rfl) (by kernel_rfl) (fun _ _ _ h => h) (.inl ⟨by kernel_rfl, fun w' hw' => by have h4 := hw'.2.2.1; go_simp⟩) HS.out ?_
      go_simp
      refine weak_take 9 (.pointer (some ⟨w.heap.size, 1, none⟩)) rfl (by kernel_rfl) (by kernel_rfl) (by kernel_rfl) (by kernel_rfl) (fun _ _ _ h => h) (.inl ⟨by kernel_rfl, fun w' hw' => by go_simp⟩) HS.out ?_
      go_simp
      refine weak_take 10 (.slice (some ⟨pb, poff, none⟩) d.pend.length pcap) rfl (by kernel_rfl) (by kernel_rfl) (by kernel_rfl) (by kernel_rfl) (fun _ _ _ h => h) (.inl ⟨by kernel_rfl, fun w' hw' => by have h4 := hw'.2.1; go_simp⟩) HS.out ?_
      go_simp
      refine weak_take 11 (.int .i64 (k : Int)) rfl (by kernel_rfl) (by kernel_rfl) (by kernel_rfl) (by kernel_rfl) (fun _ _ _ h => h) (.inl ⟨by kernel_rfl, fun w' hw' => by go_simp⟩) HS.out ?_
      go_simp
      refine weak_take 12 (.pointer (some ⟨pb, poff + k * 2, none⟩)) rfl (by kernel_rfl) (by kernel_rfl) (by kernel_rfl) (by kernel_rfl) (fun _ _ _ h => h) (.inl ⟨by kernel_rfl, fun w' hw' => by go_simp⟩) HS.out ?_
      go_simp
      refine weak_take 13 (.pointer (some ⟨pb, poff + k * 2 + 1, none⟩)) rfl (by kernel_rfl) (by kernel_rfl) (by kernel_rfl) (by kernel_rfl) (fun _ _ _ h => h) (.inl ⟨by kernel_rfl, fun w' hw' => by go_simp⟩) HS.out ?_
      go_simp
      refine weak_take 14 (.slice dao xs.length dcap) rfl (by kernel_rfl) (by kernel_rfl) (by kernel_rfl) (by kernel_rfl) (fun _ _ _ h => h) (.inl ⟨by kernel_rfl, fun w' hw' => by have h4 := hw'.2.2.2; go_simp⟩) HS.out ?_
      go_simp
      refine weak_one 8 rfl rfl (by kernel_rfl) ?_
      have hds : wr.drew.heap.size = wr.heap.size := rfl
      have C4 : Chg 0 0 wr (wr.drew.alloc (.cells #[] 5)) := Chg.alloc (Chg.drew (Chg.refl 0 0 wr)) _
      have szw : w.heap.size + 2 ≤ wr.heap.size := by have := (Array.getElem?_eq_some_iff.1 HRr.out).1; omega
      have HO4 : Hid (OwnB (wr.drew.alloc (.cells #[] 5)) (w.heap.size + 2) 5 (.slice (some ⟨wr.heap.size, 0, none⟩) 0 0) []) := by
        show OwnB _ _ _ _ _
        have := World.ownsRow_lit (base := w.heap.size + 2) (e := 5) (size := 1) wr.drew #[] 0 szw (by unfold maxLen; omega) rfl
        simpa [OwnB] using this
      have HS4 : Hid ((fun w' : World => w'.cell? ⟨wc.heap.size, 1, none⟩ = some (.slice po' pl pc) ∧ w'.cell? ⟨w.heap.size, 1, none⟩ = some (.slice (some ⟨pb, poff, none⟩) d.pend.length pcap) ∧ w'.cell? ⟨pb, poff + k * 2, none⟩ = some (.int .i64 q) ∧ w'.cell? ⟨pb, poff + k * 2 + 1, none⟩ = some (.slice dao xs.length dcap)) (wr.drew.alloc (.cells #[] 5))) := ⟨C4.cell HS.out.1 (by omega), C4.cell HS.out.2.1 (by omega), C4.cell HS.out.2.2.1 (by omega), C4.cell HS.out.2.2.2 (by omega)⟩
      go_simp
      refine ⟨HS4.out, ?_⟩
      refine weak_one 15 rfl rfl (by kernel_rfl) ?_
      refine wp_app_own (.tmp 25) (.tmp 31) rfl wr.heap.size rfl (w.heap.size + 2) HO4.out (Nat.le_trans szw C4.size) _ _ _ xs rfl (VX.out.chg C4 (by omega)) Hx64.out ?_
      rintro v5 w5 ho5 ⟨g5, cap5, rfl, hg5⟩ hc5'
      have hc5 : Chg 0 0 wr.drew w5 := (Chg.alloc (Chg.refl 0 0 wr.drew) _).trans hc5'
      have s4 := C4.size
      have HS5 : Hid ((fun w' : World => w'.cell? ⟨wc.heap.size, 1, none⟩ = some (.slice po' pl pc) ∧ w'.cell? ⟨w.heap.size, 1, none⟩ = some (.slice (some ⟨pb, poff, none⟩) d.pend.length pcap) ∧ w'.cell? ⟨pb, poff + k * 2, none⟩ = some (.int .i64 q) ∧ w'.cell? ⟨pb, poff + k * 2 + 1, none⟩ = some (.slice dao xs.length dcap)) w5) := ⟨hc5.cell HS.out.1 (by omega), hc5.cell HS.out.2.1 (by omega), hc5.cell HS.out.2.2.1 (by omega), hc5.cell HS.out.2.2.2 (by omega)⟩
      have HC5 : Hid (Chg 0 0 wr w5) := (Chg.drew (Chg.refl 0 0 wr)).trans hc5
      have s5 := hc5.size
      have g5b : wr.heap.size ≤ g5 ∧ g5 < w5.heap.size := ⟨by (rcases hg5 with e | e); (· omega); (· simp at e; omega), (ho5.lt g5 rfl).2⟩
      rw [hds] at s5
      have HO5 : Hid (OwnB w5 (w.heap.size + 2) 5 (.slice (some ⟨g5, 0, none⟩) xs.length cap5) xs) := ho5
      clear HS ho5 hc5 hc5' HS4 HO4 C4 hg5
      refine ⟨fun _ => HS5.out, ?_⟩
      go_simp
      refine weak_take 16 (.agg #[.int .i64 q, .slice (some ⟨g5, 0, none⟩) xs.length cap5]) rfl (by kernel_rfl) (by kernel_rfl) (by kernel_rfl) (by kernel_rfl) (fun _ _ _ h => h) (.inl ⟨by kernel_rfl, fun w' hw' => by go_simp⟩) HS5.out ?_
      go_simp
      obtain ⟨ic, hic, hcz0, hcz1, hcz2⟩ := info_parts Try.infoW'
      refine weak_one 17 rfl rfl (by kernel_rfl) ?_
      refine wp_buildSlice 27 55 1 #[(0, .tmp 33)] rfl #[.int .i64 q, .slice (some ⟨g5, 0, none⟩) xs.length cap5] ic _ Try.underlying27 hic hcz0 (by rw [hcz1]; decide) (by rw [hcz1]; decide) (by rw [hcz1, Array.toList_map]; refine fill_row 2 _ ?_ [.int .i64 q, .slice (some ⟨g5, 0, none⟩) xs.length cap5] rfl; simp) ?_
      have C6 : Chg 0 0 wr (w5.alloc (.cells #[.int .i64 q, .slice (some ⟨g5, 0, none⟩) xs.length cap5] 55)) := HC5.out.alloc _
      have C6' : Chg 0 0 w5 (w5.alloc (.cells #[.int .i64 q, .slice (some ⟨g5, 0, none⟩) xs.length cap5] 55)) := Chg.alloc (Chg.refl 0 0 w5) _
      have B6 := heap_new w5 (.cells #[.int .i64 q, .slice (some ⟨g5, 0, none⟩) xs.length cap5] 55)
      have s6 : (w5.alloc (.cells #[.int .i64 q, .slice (some ⟨g5, 0, none⟩) xs.length cap5] 55)).heap.size = w5.heap.size + 1 := by simp
      generalize w5.alloc (.cells #[.int .i64 q, .slice (some ⟨g5, 0, none⟩) xs.length cap5] 55) = w6 at *
      have HO6 := HO5.out.chg C6' (by intro g' _; omega)
      have S6 : (fun w' : World => w'.cell? ⟨wc.heap.size, 1, none⟩ = some (.slice po' pl pc) ∧ w'.cell? ⟨w.heap.size, 1, none⟩ = some (.slice (some ⟨pb, poff, none⟩) d.pend.length pcap) ∧ w'.cell? ⟨pb, poff + k * 2, none⟩ = some (.int .i64 q) ∧ w'.cell? ⟨pb, poff + k * 2 + 1, none⟩ = some (.slice dao xs.length dcap)) w6 := ⟨C6'.cell HS5.out.1 (by omega), C6'.cell HS5.out.2.1 (by omega), C6'.cell HS5.out.2.2.1 (by omega), C6'.cell HS5.out.2.2.2 (by omega)⟩
      refine ⟨fun _ => S6, ?_⟩
      go_simp
      have P6 := HPx.out.chg C6 (by intro g' _; omega) (by intro i g' _ _; omega)
      have D6 := HD.out.chg C6 (by intro g' _; omega)
      have Bx6 := (C6.block wc.heap.size (by omega) (by omega)).trans HB.out
      have R6 := (C6.block (w.heap.size + 1) (by omega) (by omega)).trans HRr.out
      have I6 := (C6.block w.heap.size (by omega) (by omega)).trans HI.out
      have hnews : ∀ j u, [Value.int .i64 q, .slice (some ⟨g5, 0, none⟩) xs.length cap5][j]? = some u → w6.cell? ((⟨w5.heap.size, 0, none⟩ : Addr).add j) = some u := by
        intro j u hj
        rw [Addr.add_mid, Nat.zero_add, cell_of_row w6 w5.heap.size j _ _ _ B6]
        simpa using hj
      refine weak_one 18 rfl rfl (by kernel_rfl) ?_
      refine wp_append_own w6 (.tmp 18) (.tmp 34) 27 rfl (w.heap.size + 2) 55 ic _ 2 32 Try.underlying27 hic hcz0 hcz1 hcz2 rfl (by decide) _ _ cells rfl P6.row ⟨w5.heap.size, 0, none⟩ 1 1 [.int .i64 q, .slice (some ⟨g5, 0, none⟩) xs.length cap5] rfl rfl hnews (by simp [Value.oneCell']) (by rw [hlk]; unfold maxLen; omega) (by rw [hlk]; omega) (by omega) ?_
      intro v' w8 hown8 hgrow _
      obtain ⟨vo, vl, vc, rfl⟩ := row_slice hown8
      have s8 := hgrow.size
      have K8 : ∀ j, j < w6.heap.size → (Value.slice po' pl pc).ownBlock ≠ some j → w8.heap[j]? = w6.heap[j]? := fun j hj hne' => hgrow.block j hj (fun e => hne' e.symm)
      have hpB : ∀ j, (Value.slice po' pl pc).ownBlock = some j → w.heap.size + 2 ≤ j ∧ j < wr.heap.size := fun j hj => World.ownsRow.lt HPx.out.row j hj
      have hpE : ∀ j, (Value.slice po' pl pc).ownBlock = some j → ∃ cur, w6.heap[j]? = some (.cells cur 55 (0, 0)) := fun j hj => row_elem' P6.row hj
      have Bx8 : w8.heap[wc.heap.size]? = _ := (K8 wc.heap.size (by omega) (fun e => by obtain ⟨cur, hcur⟩ := hpE _ e; exact cells_ne hcur Bx6 (by decide) rfl)).trans Bx6
      have R8 : w8.heap[w.heap.size + 1]? = _ := (K8 (w.heap.size + 1) (by omega) (fun e => by have := hpB _ e; omega)).trans R6
      have I8 : w8.heap[w.heap.size]? = _ := (K8 w.heap.size (by omega) (fun e => by have := hpB _ e; omega)).trans I6
      have D8 : OwnB w8 (w.heap.size + 2) 5 _ d.dur := D6.same (fun j hj => K8 j (D6.lt j hj).2 (fun e => by obtain ⟨cur, hcur⟩ := hpE _ e; obtain ⟨cur', hcur'⟩ := D6.elem hj; exact cells_ne hcur hcur' (by decide) rfl))
      have O8 : OwnB w8 (w.heap.size + 2) 5 _ xs := HO6.same (fun j hj => K8 j (HO6.lt j hj).2 (fun e => by obtain ⟨cur, hcur⟩ := hpE _ e; obtain ⟨cur', hcur'⟩ := HO6.elem hj; exact cells_ne hcur hcur' (by decide) rfl))
      have X8 : ∀ i, i < (d.pend.take k).length → OwnB w8 (w.heap.size + 2) 5 (dvs i) ((d.pend.take k).getD i (0, [])).2 := fun i hi => (P6.data i hi).same (fun j hj => K8 j ((P6.data i hi).lt j hj).2 (fun e => by obtain ⟨cur, hcur⟩ := hpE _ e; obtain ⟨cur', hcur'⟩ := (P6.data i hi).elem hj; exact cells_ne hcur hcur' (by decide) rfl))
      have C6w := HCw.out.trans C6
      have C8 : Chg 0 0 w w8 := by
        refine ⟨hgrow.os.trans C6w.os, hgrow.tape.trans C6w.tape, hgrow.output.trans C6w.output, by omega, fun j hj hh => (K8 j (by omega) (fun e => ?_)).trans (C6w.block j hj (by omega))⟩
        have := hpB j e
        omega
      have S8 : (fun w' : World => w'.cell? ⟨wc.heap.size, 1, none⟩ = some (.slice po' pl pc) ∧ w'.cell? ⟨w.heap.size, 1, none⟩ = some (.slice (some ⟨pb, poff, none⟩) d.pend.length pcap) ∧ w'.cell? ⟨pb, poff + k * 2, none⟩ = some (.int .i64 q) ∧ w'.cell? ⟨pb, poff + k * 2 + 1, none⟩ = some (.slice dao xs.length dcap)) w8 := by
        have t1 := S6.2.2.1
        have t2 := S6.2.2.2
        refine ⟨(two_cells Bx8).2.1, (two_cells I8).2.1, ?_, ?_⟩
        · rw [World.cell?_of_block (w := w6) (a := ⟨pb, poff + k * 2, none⟩) (K8 pb (by omega) (fun e => by have := hpB _ e; omega))]
          exact t1
        · rw [World.cell?_of_block (w := w6) (a := ⟨pb, poff + k * 2 + 1, none⟩) (K8 pb (by omega) (fun e => by have := hpB _ e; omega))]
          exact t2
      have e1 := S8.1
      have ef1 := (two_cells Bx8).2.2.2
      have HS8 : Hid ((fun w' : World => w'.cell? ⟨wc.heap.size, 1, none⟩ = some (.slice po' pl pc) ∧ w'.cell? ⟨w.heap.size, 1, none⟩ = some (.slice (some ⟨pb, poff, none⟩) d.pend.length pcap) ∧ w'.cell? ⟨pb, poff + k * 2, none⟩ = some (.int .i64 q) ∧ w'.cell? ⟨pb, poff + k * 2 + 1, none⟩ = some (.slice dao xs.length dcap)) w8) := S8
      refine ⟨fun _ => S8, ?_⟩
      have nB : ∀ {v xs}, OwnB w8 (w.heap.size + 2) 5 v xs → v.ownBlock ≠ some wc.heap.size := fun ho e => by obtain ⟨cur, hcur⟩ := ho.elem e; exact cells_ne hcur Bx8 (by decide) rfl
      have HC9 : Hid (Chg 0 0 w (w8.setCell ⟨wc.heap.size, 1, none⟩ (.slice vo vl vc))) := C8.step (Chg.setCell (lo := wc.heap.size) (hi := wc.heap.size + 1) (Chg.refl _ _ _) (Or.inl ⟨Nat.le_refl _, Nat.lt_succ_self _⟩) _) (by omega)
      have HR9 : Hid ((w8.setCell ⟨wc.heap.size, 1, none⟩ (.slice vo vl vc)).heap[w.heap.size + 1]? = some (.cells #[.slice none 0 0, .slice none 0 0] 29 (0, 0))) := (Below.heap_setCell _ _ _ _ (by show w.heap.size + 1 ≠ wc.heap.size; omega)).trans R8
      have HI9 : Hid ((w8.setCell ⟨wc.heap.size, 1, none⟩ (.slice vo vl vc)).heap[w.heap.size]? = some (.cells #[.slice ao d.dur.length cap, .slice (some ⟨pb, poff, none⟩) d.pend.length pcap] 29 (0, 0))) := (Below.heap_setCell _ _ _ _ (by show w.heap.size ≠ wc.heap.size; omega)).trans I8
      have HT9 : Hid (ToldV (w8.setCell ⟨wc.heap.size, 1, none⟩ (.slice vo vl vc)) (w.heap.size + 2) wc.heap.size (.slice (some ⟨g, 0, none⟩) d.dur.length gcap) d.dur (d.pend.take (k + 1))) := by
        refine ⟨.slice vo vl vc, cells ++ [.int .i64 q, .slice (some ⟨g5, 0, none⟩) xs.length cap5], fun i => if i = (d.pend.take k).length then .slice (some ⟨g5, 0, none⟩) xs.length cap5 else dvs i, ?_, D8.set (nB D8) _, ?_, ?_⟩
        · have := heap_setCell_same w8 wc.heap.size 1 _ _ (.slice vo vl vc) Bx8
          simpa using this
        · rw [htk]
          refine P6.snoc q _ xs (ownsRow_setCell_other hown8 (fun e => ?_) _) (fun i hi => (X8 i hi).set (nB (X8 i hi)) _) (O8.set (nB O8) _) (fun i g' hi hg' e => ?_)
          · obtain ⟨cur, hcur⟩ := row_elem' hown8 e
            exact cells_ne hcur Bx8 (by decide) rfl
          · have := ((HPx.out.data i hi).lt g' hg').2
            have e2 : g5 = g' := by simpa [Value.ownBlock] using e
            omega
        · intro i j hi hj
          rw [htk, List.length_append, List.length_cons, List.length_nil] at hi
          by_cases e : i = (d.pend.take k).length
          · simp only [if_pos e]
            have := (HD.out.lt j hj).2
            simp [Value.ownBlock]
            omega
          · simp only [if_neg e]
            exact HA.out i j (by omega) hj
      have HS9 : Hid (wd.heap.size ≤ (w8.setCell ⟨wc.heap.size, 1, none⟩ (.slice vo vl vc)).heap.size) := by show _ ≤ _; simp [World.setCell]; omega
      clear S8 S6 X8 O8 D8 R8 I8 hpE hpB K8 hgrow hown8 hnews P6 D6 Bx6 R6 I6 HO6 C6 C6' C6w C8 B6 nB Bx8 HO5 HC5 HS5 htk
      go_simp
      refine weak_one 19 rfl rfl (by kernel_rfl) ?_
      go_simp
      refine ⟨HS8.out.2, ?_⟩
      refine weak_one 20 rfl rfl (by kernel_rfl) ?_
      go_simp
      refine weak_done (by kernel_rfl) (NoPanic.normal ?_)
      go_wp2
      go_roundw
      case rel => exact ⟨k + 1, by omega, by go_num, HC9.out, HS9.out, HI9.out, HR9.out, HT9.out⟩
      case measure => simp [intOf]; omega
    · obtain rfl : k = d.pend.length := by omega
      rw [List.take_length] at hP hA
      obtain ⟨po', pl, pc, rfl⟩ := row_slice hP.row
      obtain ⟨x0, x1, _, _⟩ := two_cells hI
      obtain ⟨z0, z1, zf0, zf1⟩ := two_cells hR
      obtain ⟨t0, t1, tf0, tf1⟩ := two_cells hB
      have hgl := (hD.lt g rfl)
      have HO : Hid (OwnD ((wr.setCell ⟨w.heap.size + 1, 0, none⟩ (.slice (some ⟨g, 0, none⟩) d.dur.length gcap)).setCell ⟨w.heap.size + 1, 1, none⟩ (.slice po' pl pc)) w.heap.size wr.heap.size 55 5 (.agg #[.slice (some ⟨g, 0, none⟩) d.dur.length gcap, .slice po' pl pc]) d) := by
        have c2 : Chg (w.heap.size + 1) (w.heap.size + 1 + 1) wr ((wr.setCell ⟨w.heap.size + 1, 0, none⟩ (.slice (some ⟨g, 0, none⟩) d.dur.length gcap)).setCell ⟨w.heap.size + 1, 1, none⟩ (.slice po' pl pc)) := Chg.set2 _ _ _ _
        have P9 := hP.chg c2 (fun j hj => Or.inr (World.ownsRow.lt hP.row j hj).1) (fun i j hi hj => Or.inr ((hP.data i hi).lt j hj).1)
        have P9' : OwnPx ((wr.setCell ⟨w.heap.size + 1, 0, none⟩ (.slice (some ⟨g, 0, none⟩) d.dur.length gcap)).setCell ⟨w.heap.size + 1, 1, none⟩ (.slice po' pl pc)) w.heap.size 55 5 (.slice po' pl pc) d.pend cells dvs := by
          refine ⟨?_, P9.at0, P9.at1, fun i hi => (P9.data i hi).base (fun j hj => by have := ((P9.data i hi).lt j hj).1; omega), P9.apart⟩
          obtain ⟨h1, h2⟩ := P9.row
          refine ⟨h1, ?_⟩
          rcases h2 with h2 | ⟨j, cap, cur, hv, hg, hh, r⟩
          · exact Or.inl h2
          · exact Or.inr ⟨j, cap, cur, hv, by omega, hh, r⟩
        refine ⟨_, _, cells, dvs, rfl, (hD.chg c2 (fun j hj => Or.inr (hD.lt j hj).1)).base (fun j hj => by have := (hD.lt j hj).1; omega), P9', fun i j hi hj e => hA i j hi hj e, fun j hj => (hD.lt j hj).2, fun j hj => (World.ownsRow.lt hP.row j hj).2, fun i j hi hj => ((hP.data i hi).lt j hj).2⟩
      have HCf : Hid (Chg 0 0 w ((wr.setCell ⟨w.heap.size + 1, 0, none⟩ (.slice (some ⟨g, 0, none⟩) d.dur.length gcap)).setCell ⟨w.heap.size + 1, 1, none⟩ (.slice po' pl pc))) := hcw.step (Chg.set2 _ _ _ _) (by omega)
      have HSf : Hid (((wr.setCell ⟨w.heap.size + 1, 0, none⟩ (.slice (some ⟨g, 0, none⟩) d.dur.length gcap)).setCell ⟨w.heap.size + 1, 1, none⟩ (.slice po' pl pc)).heap.size = wr.heap.size) := by show _ = _; simp [World.setCell]
      clear hP hD hA hB hR hI hcw HP
      go_wp2
      refine bodyPost_ret (v := .agg #[.slice (some ⟨g, 0, none⟩) d.dur.length gcap, .slice po' pl pc]) (by simp [results, Try.results32, go_sem, z0, z1]) rfl ⟨_, rfl, ?_, HCf.out⟩
      rw [HSf.out]; exact HO.out
end Go.Proofs.Ytplfehjaakkldaa

/- DiskImage of the program. -/
import Derived.Test.YtplfehjaakkldaaJoin
namespace Go.Proofs.Ytplfehjaakkldaa
open Go.RowKit

/-- What DiskImage tells. -/
def imageD (d : Dsk) : List Int := if validB d = true then (setD (fun _ => true) d).dur else []

set_option maxRecDepth 20000 in
set_option maxHeartbeats 1000000 in
theorem implImage_calls (w : World) {lo hi : Nat} {a : Value} {d : Dsk} (h1 : DView w lo hi a d) :
    Calls Try.prog 22 #[a] w fun e w' => ∃ v, e = .returned v ∧ OwnB w' w.heap.size 5 v (imageD d) ∧ Chg 0 0 w w' := by
  have d0 := h1
  obtain ⟨dv, pv, rfl, v1, p1⟩ := h1
  obtain ⟨ao, cap, rfl, _, _, _⟩ := v1
  obtain ⟨po, pcap, rfl, _, _, _⟩ := p1
  have hA : Chg 0 0 w (w.alloc (.cells #[.slice ao d.dur.length cap, .slice po d.pend.length pcap] 29)) := Chg.alloc (Chg.refl 0 0 w) _
  have sA : w.heap.size ≤ (w.alloc (.cells #[.slice ao d.dur.length cap, .slice po d.pend.length pcap] 29)).heap.size := by simp
  have dA := d0.chg hA (by omega)
  cases hV : validB d with
  | false =>
    have hR : imageD d = [] := by unfold imageD; rw [if_neg (by rw [hV]; simp)]
    rw [hR]
    go_enter Try.func22, Try.ntmps22
    go_wp2_with fail
    refine (openDevice_no _ dA hV).mono ?_
    rintro e w1 ⟨rfl, hc⟩
    have hch := hA.trans hc
    clear hc hA dA d0 hR
    go_wp2
    go_ret
    exact ⟨_, rfl, OwnB.nil _ _ _, hch⟩
  | true =>
    have hVal := (validB_iff d).1 hV
    have hR : imageD d = (setD (fun _ => true) d).dur := by unfold imageD; rw [if_pos hV]
    rw [hR]
    clear hR
    go_enter Try.func22, Try.ntmps22
    go_wp2_with fail
    refine (openDevice_yes _ dA hVal).mono ?_
    rintro e w1 ⟨p, rfl, hdev, hc⟩
    have hch := hA.trans hc
    have HA : Hid (Chg 0 0 w (w.alloc (.cells #[.slice ao d.dur.length cap, .slice po d.pend.length pcap] 29))) := hA
    generalize hbs : (w.alloc (.cells #[.slice ao d.dur.length cap, .slice po d.pend.length pcap] 29)).heap.size = bs at *
    clear hc hA dA d0 hbs
    go_wp2_with fail
    refine (flush_calls _ hdev).mono ?_
    rintro e w2 ⟨rfl, hdev2, hc2⟩
    have hch2 : Chg 0 0 w w2 := hch.step hc2 (Or.inr (Or.inl sA))
    have s2 := hch2.size
    obtain ⟨gD, po', cap', hv2, hp2, hg2, hbox, hdur, _⟩ := hdev2.pend_ne
    obtain ⟨c0, c1, _, _⟩ := two_cells hbox
    have h64 := hv2.1
    have hn1 := hv2.2.1
    have hn := hv2.2.2.1
    clear hdev hdev2 hc2 hch hbox hVal hV hv2
    generalize hd2 : (setD (fun _ => true) d) = d2 at *
    have Hd2 : Hid (setD (fun _ => true) d = d2) := hd2
    clear hd2
    go_wp2_with fail
    refine (joined_calls _ gD _ d2.dur hdur (by omega) hn1 hn).mono ?_
    rintro e w3 ⟨g, rfl, ho, h3⟩
    have HO : Hid (OwnB w3 w.heap.size 5 (.slice (some ⟨g, 0, none⟩) (d2.dur.length / 64 * 64) (d2.dur.length / 64 * 64)) d2.dur) := ho.base (fun g' hg' => Nat.le_trans s2 (ho.lt g' hg').1)
    have hch3 := hch2.trans h3
    clear h3 hch2 ho hdur c0 c1
    go_wp2
    go_ret
    exact ⟨_, rfl, by rw [Hd2.out]; exact HO.out, hch3⟩
end Go.Proofs.Ytplfehjaakkldaa

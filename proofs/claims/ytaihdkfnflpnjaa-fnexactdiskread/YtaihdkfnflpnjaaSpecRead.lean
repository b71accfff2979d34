/- What a reader sees, by the model: l1Copy, l1See, DiskRead. -/
import Derived.Test.YtaihdkfnflpnjaaRead
import Derived.Test.YtaihdkfnflpnjaaCopy
import Derived.Test.YtaihdkfnflpnjaaViewPart
namespace Go.Proofs.Ytaihdkfnflpnjaa
open Go.RowKit

set_option maxRecDepth 20000 in
set_option maxHeartbeats 1000000 in
theorem l1See_calls (w : World) {lo hi : Nat} {v : Value} {d : Dsk} (a : Nat) (h1 : DView w lo hi v d) (hv : Valid d) (ha : a < d.dur.length / 64) :
    Calls Try.prog 17 #[v, .int .i64 a] w fun e w' => ∃ u, e = .returned u ∧ OwnB w' w.heap.size 5 u (see d a) ∧ Chg 0 0 w w' := by
  obtain ⟨dv, pv, rfl, v1, p1⟩ := h1
  have v0 := v1
  obtain ⟨ao, cap, rfl, hl1, ⟨hcap, _⟩, hdc⟩ := v1
  obtain ⟨po, pcap, rfl, hl2, _, hpc⟩ := p1
  obtain ⟨b, off, rfl⟩ : ∃ b off, ao = some ⟨b, off, none⟩ := by
    rcases hdc with e | ⟨b, off, e, _⟩
    · rw [e] at ha; simp at ha
    · exact ⟨b, off, e⟩
  have hm := hv.2.2.2.1
  have hn := hv.2.2.1
  have hg5 := hv.2.2.2.2
  have HG5 : Hid (∀ i, i < d.pend.length → Good (d.dur.length / 64) (d.pend.getD i (0, []))) := hg5
  have B0 := heap_new w (.cells #[.slice (some ⟨b, off, none⟩) d.dur.length cap, .slice po d.pend.length pcap] 30)
  obtain ⟨x0, x1, _, _⟩ := two_cells B0
  have C0 : Chg 0 0 w (w.alloc (.cells #[.slice (some ⟨b, off, none⟩) d.dur.length cap, .slice po d.pend.length pcap] 30)) := Chg.alloc (Chg.refl 0 0 w) _
  have s0 : w.heap.size ≤ (w.alloc (.cells #[.slice (some ⟨b, off, none⟩) d.dur.length cap, .slice po d.pend.length pcap] 30)).heap.size := by simp
  have v0 := v0.chg C0 (by omega)
  have HP : Hid (∀ k, k < d.pend.length → ∃ pb poff dv, po = some ⟨pb, poff, none⟩ ∧ (w.alloc (.cells #[.slice (some ⟨b, off, none⟩) d.dur.length cap, .slice po d.pend.length pcap] 30)).cell? ⟨pb, poff + k * 2, none⟩ = some (.int .i64 (d.pend.getD k (0, [])).1) ∧
      (w.alloc (.cells #[.slice (some ⟨b, off, none⟩) d.dur.length cap, .slice po d.pend.length pcap] 30)).cell? ⟨pb, poff + k * 2 + 1, none⟩ = some dv ∧ View (w.alloc (.cells #[.slice (some ⟨b, off, none⟩) d.dur.length cap, .slice po d.pend.length pcap] 30)) lo hi .u8 dv (d.pend.getD k (0, [])).2) := by
    intro k hk
    rcases hpc with e | ⟨pb, poff, e, _, _, h⟩
    · rw [e] at hk; simp at hk
    · obtain ⟨dv, c1, c2, vw⟩ := h k hk
      exact ⟨pb, poff, dv, e, C0.cell c1 (by omega), C0.cell c2 (by omega), vw.chg C0 (by omega)⟩
  have HV0 : Hid (View (w.alloc (.cells #[.slice (some ⟨b, off, none⟩) d.dur.length cap, .slice po d.pend.length pcap] 30)) lo hi .u8 (.slice (some ⟨b, off, none⟩) d.dur.length cap) d.dur) := v0
  clear hpc hdc hg5 B0 v0
  go_enter Try.func17, Try.ntmps17
  go_wp2
  generalize w.alloc (.cells #[.slice (some ⟨b, off, none⟩) d.dur.length cap, .slice po d.pend.length pcap] 30) = W0 at *
  go_loop [5] (fun i => ∃ k : Nat, k ≤ d.pend.length ∧ i = .int .i64 ((k : Int) - 1) ∧ ∀ j, k ≤ j → j < d.pend.length → (d.pend.getD j (0, [])).1 ≠ (a : Int)) (fun i => (intOf i + 1).toNat)
  case atStart => exact ⟨d.pend.length, Nat.le_refl _, rfl, by intro j h1 h2; omega⟩
  case round =>
    obtain ⟨k, hk, rfl, hno⟩ := hrel
    have HNo : Hid (∀ j, k ≤ j → j < d.pend.length → (d.pend.getD j (0, [])).1 ≠ (a : Int)) := hno
    clear hno
    cases k with
    | zero =>
      have hsee : see d a = (d.dur.drop (a * 64)).take 64 := by unfold see; exact seeTo_none _ _ _ (fun j hj => HNo.out j (by omega) hj)
      have Hsee : Hid (see d a = (d.dur.drop (a * 64)).take 64) := hsee
      have hlen : ((d.dur.drop (a * 64)).take 64).length ≤ 1048576 := by rw [List.length_take]; omega
      have HVp : Hid (View W0 lo hi .u8 (.slice (some ⟨b, off + a * 64, none⟩) 64 (cap - a * 64)) ((d.dur.drop (a * 64)).take 64)) := HV0.out.part (by omega) (by omega) _ (by omega)
      have Hlen : Hid (((d.dur.drop (a * 64)).take 64).length ≤ 1048576) := hlen
      have e3 : (a : Int) * 64 ≤ (cap : Int) := by omega
      have e4 : ((a : Int) + 1) * 64 ≤ (cap : Int) := by omega
      have e5 : ¬ cap = a * 64 := by omega
      clear hsee HP HG5 HNo HV0 hlen
      go_wp2_with fail
      rw [show (a + 1) * 64 - a * 64 = 64 from by omega]
      refine (l1Copy_calls _ Hlen.out HVp.out).mono ?_
      rintro e w1 ⟨u, rfl, ho, hc⟩
      have HO : Hid (OwnB w1 w.heap.size 5 u (see d a)) := by rw [Hsee.out]; exact ho.base (fun g' hg' => Nat.le_trans s0 (ho.lt g' hg').1)
      have hch := C0.trans hc
      clear ho hc C0 HVp Hsee Hlen
      go_wp2
      go_ret
      exact ⟨_, rfl, HO.out, hch⟩
    | succ k =>
      obtain ⟨pb, poff, dv, rfl, c1, c2, vw⟩ := HP.out k (by omega)
      have hik : (k : Int) < (d.pend.length : Int) := by omega
      rw [show ((k + 1 : Nat) : Int) - 1 = (k : Int) from by omega]
      by_cases hit : (d.pend.getD k (0, [])).1 = (a : Int)
      · have hsee : see d a = (d.pend.getD k (0, [])).2 := by unfold see; exact seeTo_hit _ _ _ k (by omega) hit (fun j h1 h2 => HNo.out j (by omega) h2)
        have hlen : (d.pend.getD k (0, [])).2.length ≤ 1048576 := by have := (HG5.out k (by omega)).2.2; omega
        have hb1 : ((d.pend.getD k (0, [])).1 == (a : Int)) = true := by rw [beq_iff_eq]; exact hit
        have Hsee : Hid (see d a = (d.pend.getD k (0, [])).2) := hsee
        generalize (d.pend.getD k (0, [])).1 = q at *
        generalize (d.pend.getD k (0, [])).2 = xs at *
        clear hsee HP HG5 HNo HV0 hit
        go_wp2_with fail
        refine (l1Copy_calls _ hlen vw).mono ?_
        rintro e w1 ⟨u, rfl, ho, hc⟩
        have HO : Hid (OwnB w1 w.heap.size 5 u (see d a)) := by rw [Hsee.out]; exact ho.base (fun g' hg' => Nat.le_trans s0 (ho.lt g' hg').1)
        have hch := C0.trans hc
        clear ho hc C0 vw Hsee hlen
        go_wp2
        go_ret
        exact ⟨_, rfl, HO.out, hch⟩
      · have hb1 : ((d.pend.getD k (0, [])).1 == (a : Int)) = false := by rw [beq_eq_false_iff_ne]; exact hit
        have HN2 : Hid (∀ j, k ≤ j → j < d.pend.length → (d.pend.getD j (0, [])).1 ≠ (a : Int)) := by
          intro j h1 h2
          by_cases e : j = k
          · subst e; exact hit
          · exact HNo.out j (by omega) h2
        generalize (d.pend.getD k (0, [])).1 = q at *
        clear HP HG5 HNo HV0 hit vw
        go_wp2
        go_round
        case rel => exact ⟨k, by omega, by go_num, HN2.out⟩
        case measure => simp [intOf]

set_option maxRecDepth 20000 in
set_option maxHeartbeats 1000000 in
theorem specRead_calls (w : World) {lo hi : Nat} {v : Value} {d : Dsk} (b : Int) (h1 : DView w lo hi v d) :
    Calls Try.prog 5 #[v, .int .i64 b] w fun e w' => ∃ u, e = .returned u ∧ OwnB w' w.heap.size 5 u (readD d b) ∧ Chg 0 0 w w' := by
  have d0 := h1
  obtain ⟨dv, pv, rfl, v1, p1⟩ := h1
  obtain ⟨ao, cap, rfl, hl1, _, _⟩ := v1
  obtain ⟨po, pcap, rfl, _, _, _⟩ := p1
  have B0 := heap_new w (.cells #[.slice ao d.dur.length cap, .slice po d.pend.length pcap] 30)
  have C0 : Chg 0 0 w (w.alloc (.cells #[.slice ao d.dur.length cap, .slice po d.pend.length pcap] 30)) := Chg.alloc (Chg.refl 0 0 w) _
  have s0 : w.heap.size < (w.alloc (.cells #[.slice ao d.dur.length cap, .slice po d.pend.length pcap] 30)).heap.size := by simp
  have dA := d0.chg C0 (by omega)
  -- what is told where nothing is read: a slice without elements, in a block of its own
  have O0 : ∀ W : World, (W.alloc (.cells #[] 5)).ownsRow W.heap.size 5 1 (.slice (some ⟨W.heap.size, 0, none⟩) 0 0) 0 [] := by
    intro W
    have := World.ownsRow_lit (base := W.heap.size) (e := 5) (size := 1) W #[] 0 (Nat.le_refl _) (by unfold maxLen; omega) rfl
    simpa using this
  have HO0 : Hid (∀ W : World, (W.alloc (.cells #[] 5)).ownsRow W.heap.size 5 1 (.slice (some ⟨W.heap.size, 0, none⟩) 0 0) 0 []) := O0
  clear O0 d0
  cases hV : validB d with
  | false =>
    have hR : readD d b = [] := by unfold readD; rw [if_neg (by rw [hV]; simp)]
    rw [hR]
    go_enter Try.func5, Try.ntmps5
    go_wp2_with fail
    refine (specValid_calls _ dA).mono ?_
    rintro e w1 ⟨rfl, hc⟩
    rw [hV]
    have hch := C0.trans hc
    have hsz := hch.size
    clear hc C0 dA hR B0
    go_wp2
    go_ret
    exact ⟨_, rfl, OwnB.base (HO0.out w1) (fun g hg => by cases hg; exact hsz), hch.alloc _⟩
  | true =>
    have hVal := (validB_iff d).1 hV
    by_cases hb0 : 0 ≤ b
    case neg =>
      have hR : readD d b = [] := by unfold readD; rw [if_neg (fun h => hb0 h.2.1)]
      rw [hR]
      go_enter Try.func5, Try.ntmps5
      go_wp2_with fail
      refine (specValid_calls _ dA).mono ?_
      rintro e w1 ⟨rfl, hc⟩
      rw [hV]
      have hch := C0.trans hc
      have hsz := hch.size
      clear hc C0 dA hR B0 hVal
      go_wp2
      go_ret
      exact ⟨_, rfl, OwnB.base (HO0.out w1) (fun g hg => by cases hg; exact hsz), hch.alloc _⟩
    by_cases hb1 : b < ((d.dur.length / 64 : Nat) : Int)
    case neg =>
      have hR : readD d b = [] := by unfold readD; rw [if_neg (fun h => hb1 h.2.2)]
      rw [hR]
      go_enter Try.func5, Try.ntmps5
      go_wp2_with fail
      refine (specValid_calls _ dA).mono ?_
      rintro e w1 ⟨rfl, hc⟩
      rw [hV]
      have s1 := hc.size
      have B1 := (hc.block w.heap.size (by omega) (by omega)).trans B0
      obtain ⟨x0, x1, _, _⟩ := two_cells B1
      have hch := C0.trans hc
      clear hc C0 dA hR B0 hVal
      go_wp2_with fail
      refine (l1Blocks_calls _ _ _ _ _ hl1).mono ?_
      rintro e w2 ⟨rfl, hc2⟩
      have hch2 := hch.trans hc2
      have hsz := hch2.size
      clear hc2 hch B1 x0 x1
      go_wp2
      go_ret
      exact ⟨_, rfl, OwnB.base (HO0.out w2) (fun g hg => by cases hg; exact hsz), hch2.alloc _⟩
    have hR : readD d b = see d b.toNat := by unfold readD; rw [if_pos ⟨hV, hb0, hb1⟩]
    rw [hR]
    clear hR HO0
    go_enter Try.func5, Try.ntmps5
    go_wp2_with fail
    refine (specValid_calls _ dA).mono ?_
    rintro e w1 ⟨rfl, hc⟩
    rw [hV]
    have s1 := hc.size
    have B1 := (hc.block w.heap.size (by omega) (by omega)).trans B0
    obtain ⟨x0, x1, _, _⟩ := two_cells B1
    have hch := C0.trans hc
    have d1 := dA.chg hc (by omega)
    clear hc C0 dA B0
    go_wp2_with fail
    refine (l1Blocks_calls _ _ _ _ _ hl1).mono ?_
    rintro e w2 ⟨rfl, hc2⟩
    have s2 := hc2.size
    have B2 := (hc2.block w.heap.size (by omega) (by omega)).trans B1
    have hch2 := hch.trans hc2
    have d2 := d1.chg hc2 (by omega)
    have hsz := hch2.size
    clear hc2 hch B1 x0 x1 d1
    obtain ⟨x0, x1, _, _⟩ := two_cells B2
    obtain ⟨n, rfl⟩ := Int.eq_ofNat_of_zero_le hb0
    have hn : n < d.dur.length / 64 := by omega
    go_wp2_with fail
    refine (l1See_calls _ n d2 hVal hn).mono ?_
    rintro e w3 ⟨u, rfl, ho, hc3⟩
    have HO : Hid (OwnB w3 w.heap.size 5 u (see d n)) := ho.base (fun g' hg' => Nat.le_trans hsz (ho.lt g' hg').1)
    have hch3 := hch2.trans hc3
    clear hc3 hch2 ho d2 B2 x0 x1
    go_wp2
    go_ret
    exact ⟨_, rfl, HO.out, hch3⟩
end Go.Proofs.Ytaihdkfnflpnjaa

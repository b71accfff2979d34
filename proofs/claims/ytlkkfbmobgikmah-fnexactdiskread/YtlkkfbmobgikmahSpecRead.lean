/- What a reader sees, by the model: l1Copy, l1See, DiskRead. -/
import Derived.Test.YtlkkfbmobgikmahRead
import Derived.Laws.AppendOwnNone
namespace Go.Proofs.Ytlkkfbmobgikmah
open Go.RowKit

theorem infoU_zero : (Value.int .u8 0).cells.size = 1 := rfl

set_option maxHeartbeats 1000000 in
theorem l1Copy_calls (w : World) {lo hi : Nat} {a : Value} {xs : List Int} (hl : xs.length ≤ 1048576) (h1 : View w lo hi .u8 a xs) :
    Calls Try.prog 42 #[a] w fun e w' => ∃ v, e = .returned v ∧ OwnB w' w.heap.size 5 v xs ∧ Chg 0 0 w w' := by
  obtain ⟨i, hi, hz0, hz1, hz2⟩ := info_parts Try.infoU
  obtain ⟨ao, cap, rfl, _, ⟨_, hnil⟩, h1⟩ := h1
  have C0 : Chg 0 0 w (w.alloc (.cells #[] 5)) := Chg.alloc (Chg.refl 0 0 w) _
  have O0 : (w.alloc (.cells #[] 5)).ownsRow w.heap.size 5 1 (.slice (some ⟨w.heap.size, 0, none⟩) 0 0) 0 [] := by
    have := World.ownsRow_lit (base := w.heap.size) (e := 5) (size := 1) w #[] 0 (Nat.le_refl _) (by unfold maxLen; omega) rfl
    simpa using this
  have HO0 : Hid ((w.alloc (.cells #[] 5)).ownsRow w.heap.size 5 1 (.slice (some ⟨w.heap.size, 0, none⟩) 0 0) 0 []) := O0
  have HC0 : Hid (Chg 0 0 w (w.alloc (.cells #[] 5))) := C0
  have bs : Hid (w.heap.size ≤ (w.alloc (.cells #[] 5)).heap.size) := by show _ ≤ _; simp
  cases ao with
  | none =>
    obtain rfl : xs = [] := by
      rcases h1 with h1 | ⟨b, off, e, _⟩
      · exact h1
      · cases e
    obtain rfl : cap = 0 := hnil rfl
    clear h1 hnil C0
    go_enter Try.func42, Try.ntmps42
    go_wp2_with (at_builtin; refine wpList_append_own_none rfl (.tmp 3) (.tmp 4) 26 rfl w.heap.size 5 i 1 Try.underlying26 hi _ 0 [] rfl HO0.out rfl ?_)
    go_ret
    exact ⟨_, rfl, HO0.out, HC0.out⟩
  | some ad =>
    have hsrc : ∀ j u, (xs.map (Value.int .u8))[j]? = some u → (w.alloc (.cells #[] 5)).cell? (ad.add j) = some u := by
      intro j u hj
      have hjl : j < xs.length := by have := (List.getElem?_eq_some_iff.1 hj).1; simpa using this
      rcases h1 with h1 | ⟨b, off, e, _, _, hc⟩
      · rw [h1] at hjl; simp at hjl
      · cases e
        rw [Addr.add_mid, C0.cell (hc j hjl) (by omega), ← hj]
        simp [List.getD_eq_getElem?_getD, hjl]
    have Hsrc : Hid (∀ j u, (xs.map (Value.int .u8))[j]? = some u → (w.alloc (.cells #[] 5)).cell? (ad.add j) = some u) := hsrc
    clear h1 hnil hsrc C0
    go_enter Try.func42, Try.ntmps42
    go_wp2_with (at_builtin; refine wpList_append_own _ rfl (.tmp 3) (.tmp 4) 26 rfl w.heap.size 5 i (.int .u8 0) 1 1 Try.underlying26 hi hz0 hz1 hz2 rfl (by decide) _ 0 [] rfl HO0.out ad xs.length cap (xs.map (Value.int .u8)) rfl (by simp) Hsrc.out (ints_oneCell _ _) (by unfold maxLen; omega) (by omega) bs.out ?_)
    intro v' w1 hown hgrow _
    have HO : Hid (OwnB w1 w.heap.size 5 v' xs) := by
      show OwnB _ _ _ _ _
      unfold OwnB
      simpa using hown
    have HC : Hid (Chg 0 0 w w1) := HC0.out.step (Chg.ofGrown (lo := w.heap.size) (hi := w.heap.size + 1) hgrow (fun k hk _ => by simp only [Value.ownBlock, Option.some.injEq] at hk; omega)) (Or.inr (Or.inl (Nat.le_refl _)))
    clear hown hgrow HO0 HC0 Hsrc bs
    go_wp2
    go_ret
    exact ⟨_, rfl, HO.out, HC.out⟩

/-- A part of a slice of numbers. -/
theorem View.part {w : World} {lo hi b off cap l n : Nat} {k : IntKind} {xs : List Int} (h : View w lo hi k (.slice (some ⟨b, off, none⟩) xs.length cap) xs) (hl : l + n ≤ xs.length) (hn : 0 < n) (c : Nat) (hc : n ≤ c) :
    View w lo hi k (.slice (some ⟨b, off + l, none⟩) n c) ((xs.drop l).take n) := by
  have hlen : ((xs.drop l).take n).length = n := by rw [List.length_take, List.length_drop]; omega
  obtain ⟨ao, cap', e, h0, _, h1⟩ := h
  simp only [Value.slice.injEq] at e
  obtain ⟨e1, _, _⟩ := e
  rcases h1 with h1 | ⟨b', off', e2, h2, h3, h4⟩
  · rw [h1] at hl; simp at hl; omega
  · rw [← e1] at e2
    cases e2
    refine ⟨_, c, by rw [hlen], by rw [hlen]; omega, ⟨by rw [hlen]; exact hc, by simp⟩, Or.inr ⟨b, off + l, rfl, h2, h3, fun i hi => ?_⟩⟩
    rw [hlen] at hi
    rw [Nat.add_assoc, h4 (l + i) (by omega)]
    simp only [List.getD_eq_getElem?_getD, List.getElem?_take, List.getElem?_drop]
    rw [if_pos hi]

set_option maxHeartbeats 1000000 in
theorem l1See_calls (w : World) {lo hi : Nat} {v : Value} {d : Dsk} (a : Nat) (h1 : DView w lo hi v d) (hv : Valid d) (ha : a < d.dur.length / 64) :
    Calls Try.prog 32 #[v, .int .i64 a] w fun e w' => ∃ u, e = .returned u ∧ OwnB w' w.heap.size 5 u (see d a) ∧ Chg 0 0 w w' := by
  obtain ⟨dv, pv, rfl, v1, p1⟩ := h1
  have v0 := v1
  obtain ⟨ao, cap, rfl, hl1, ⟨hcap, _⟩, hdc⟩ := v1
  obtain ⟨po, pcap, rfl, hl2, _, hpc⟩ := p1
  obtain ⟨b, off, rfl⟩ : ∃ b off, ao = some ⟨b, off, none⟩ := by
    rcases hdc with e | ⟨b, off, e, _⟩
    · rw [e] at ha; simp at ha
    · exact ⟨b, off, e⟩
  have hm := hv.2.2.2.1
  have hn := hv.2.2.1
  have hg5 := hv.2.2.2.2
  have HG5 : Hid (∀ i, i < d.pend.length → Good (d.dur.length / 64) (d.pend.getD i (0, []))) := hg5
  have B0 := heap_new w (.cells #[.slice (some ⟨b, off, none⟩) d.dur.length cap, .slice po d.pend.length pcap] 42)
  obtain ⟨x0, x1, _, _⟩ := two_cells B0
  have C0 : Chg 0 0 w (w.alloc (.cells #[.slice (some ⟨b, off, none⟩) d.dur.length cap, .slice po d.pend.length pcap] 42)) := Chg.alloc (Chg.refl 0 0 w) _
  have s0 : w.heap.size ≤ (w.alloc (.cells #[.slice (some ⟨b, off, none⟩) d.dur.length cap, .slice po d.pend.length pcap] 42)).heap.size := by simp
  have v0 := v0.chg C0 (by omega)
  have HP : Hid (∀ k, k < d.pend.length → ∃ pb poff dv, po = some ⟨pb, poff, none⟩ ∧ (w.alloc (.cells #[.slice (some ⟨b, off, none⟩) d.dur.length cap, .slice po d.pend.length pcap] 42)).cell? ⟨pb, poff + k * 2, none⟩ = some (.int .i64 (d.pend.getD k (0, [])).1) ∧
      (w.alloc (.cells #[.slice (some ⟨b, off, none⟩) d.dur.length cap, .slice po d.pend.length pcap] 42)).cell? ⟨pb, poff + k * 2 + 1, none⟩ = some dv ∧ View (w.alloc (.cells #[.slice (some ⟨b, off, none⟩) d.dur.length cap, .slice po d.pend.length pcap] 42)) lo hi .u8 dv (d.pend.getD k (0, [])).2) := by
    intro k hk
    rcases hpc with e | ⟨pb, poff, e, _, _, h⟩
    · rw [e] at hk; simp at hk
    · obtain ⟨dv, c1, c2, vw⟩ := h k hk
      exact ⟨pb, poff, dv, e, C0.cell c1 (by omega), C0.cell c2 (by omega), vw.chg C0 (by omega)⟩
  have HV0 : Hid (View (w.alloc (.cells #[.slice (some ⟨b, off, none⟩) d.dur.length cap, .slice po d.pend.length pcap] 42)) lo hi .u8 (.slice (some ⟨b, off, none⟩) d.dur.length cap) d.dur) := v0
  clear hpc hdc hg5 B0 v0
  go_enter Try.func32, Try.ntmps32
  go_wp2
  generalize w.alloc (.cells #[.slice (some ⟨b, off, none⟩) d.dur.length cap, .slice po d.pend.length pcap] 42) = W0 at *
  go_loop [5] (fun i => ∃ k : Nat, k ≤ d.pend.length ∧ i = .int .i64 ((k : Int) - 1) ∧ ∀ j, k ≤ j → j < d.pend.length → (d.pend.getD j (0, [])).1 ≠ (a : Int)) (fun i => (intOf i + 1).toNat)
  case atStart => exact ⟨d.pend.length, Nat.le_refl _, rfl, by intro j h1 h2; omega⟩
  case round =>
    obtain ⟨k, hk, rfl, hno⟩ := hrel
    have HNo : Hid (∀ j, k ≤ j → j < d.pend.length → (d.pend.getD j (0, [])).1 ≠ (a : Int)) := hno
    clear hno
    cases k with
    | zero =>
      have hsee : see d a = (d.dur.drop (a * 64)).take 64 := by unfold see; exact seeTo_none _ _ _ (fun j hj => HNo.out j (by omega) hj)
      have Hsee : Hid (see d a = (d.dur.drop (a * 64)).take 64) := hsee
      have hlen : ((d.dur.drop (a * 64)).take 64).length ≤ 1048576 := by rw [List.length_take]; omega
      have HVp : Hid (View W0 lo hi .u8 (.slice (some ⟨b, off + a * 64, none⟩) 64 (cap - a * 64)) ((d.dur.drop (a * 64)).take 64)) := HV0.out.part (by omega) (by omega) _ (by omega)
      have Hlen : Hid (((d.dur.drop (a * 64)).take 64).length ≤ 1048576) := hlen
      have e3 : (a : Int) * 64 ≤ (cap : Int) := by omega
      have e4 : ((a : Int) + 1) * 64 ≤ (cap : Int) := by omega
      have e5 : ¬ cap = a * 64 := by omega
      clear hsee HP HG5 HNo HV0 hlen
      go_wp2_with fail
      rw [show (a + 1) * 64 - a * 64 = 64 from by omega]
      refine (l1Copy_calls _ Hlen.out HVp.out).mono ?_
      rintro e w1 ⟨u, rfl, ho, hc⟩
      have HO : Hid (OwnB w1 w.heap.size 5 u (see d a)) := by rw [Hsee.out]; exact ho.base (fun g' hg' => Nat.le_trans s0 (ho.lt g' hg').1)
      have hch := C0.trans hc
      clear ho hc C0 HVp Hsee Hlen
      go_wp2
      go_ret
      exact ⟨_, rfl, HO.out, hch⟩
    | succ k =>
      obtain ⟨pb, poff, dv, rfl, c1, c2, vw⟩ := HP.out k (by omega)
      have hik : (k : Int) < (d.pend.length : Int) := by omega
      rw [show ((k + 1 : Nat) : Int) - 1 = (k : Int) from by omega]
      by_cases hit : (d.pend.getD k (0, [])).1 = (a : Int)
      · have hsee : see d a = (d.pend.getD k (0, [])).2 := by unfold see; exact seeTo_hit _ _ _ k (by omega) hit (fun j h1 h2 => HNo.out j (by omega) h2)
        have hlen : (d.pend.getD k (0, [])).2.length ≤ 1048576 := by have := (HG5.out k (by omega)).2.2; omega
        have hb1 : ((d.pend.getD k (0, [])).1 == (a : Int)) = true := by rw [beq_iff_eq]; exact hit
        have Hsee : Hid (see d a = (d.pend.getD k (0, [])).2) := hsee
        generalize (d.pend.getD k (0, [])).1 = q at *
        generalize (d.pend.getD k (0, [])).2 = xs at *
        clear hsee HP HG5 HNo HV0 hit
        go_wp2_with fail
        refine (l1Copy_calls _ hlen vw).mono ?_
        rintro e w1 ⟨u, rfl, ho, hc⟩
        have HO : Hid (OwnB w1 w.heap.size 5 u (see d a)) := by rw [Hsee.out]; exact ho.base (fun g' hg' => Nat.le_trans s0 (ho.lt g' hg').1)
        have hch := C0.trans hc
        clear ho hc C0 vw Hsee hlen
        go_wp2
        go_ret
        exact ⟨_, rfl, HO.out, hch⟩
      · have hb1 : ((d.pend.getD k (0, [])).1 == (a : Int)) = false := by rw [beq_eq_false_iff_ne]; exact hit
        have HN2 : Hid (∀ j, k ≤ j → j < d.pend.length → (d.pend.getD j (0, [])).1 ≠ (a : Int)) := by
          intro j h1 h2
          by_cases e : j = k
          · subst e; exact hit
          · exact HNo.out j (by omega) h2
        generalize (d.pend.getD k (0, [])).1 = q at *
        clear HP HG5 HNo HV0 hit vw
        go_wp2
        go_round
        case rel => exact ⟨k, by omega, by go_num, HN2.out⟩
        case measure => simp [intOf]

set_option maxHeartbeats 1000000 in
theorem specRead_calls (w : World) {lo hi : Nat} {v : Value} {d : Dsk} (b : Int) (h1 : DView w lo hi v d) :
    Calls Try.prog 15 #[v, .int .i64 b] w fun e w' => ∃ u, e = .returned u ∧ OwnB w' w.heap.size 5 u (readD d b) ∧ Chg 0 0 w w' := by
  have d0 := h1
  obtain ⟨dv, pv, rfl, v1, p1⟩ := h1
  obtain ⟨ao, cap, rfl, hl1, _, _⟩ := v1
  obtain ⟨po, pcap, rfl, _, _, _⟩ := p1
  have B0 := heap_new w (.cells #[.slice ao d.dur.length cap, .slice po d.pend.length pcap] 42)
  have C0 : Chg 0 0 w (w.alloc (.cells #[.slice ao d.dur.length cap, .slice po d.pend.length pcap] 42)) := Chg.alloc (Chg.refl 0 0 w) _
  have s0 : w.heap.size < (w.alloc (.cells #[.slice ao d.dur.length cap, .slice po d.pend.length pcap] 42)).heap.size := by simp
  have dA := d0.chg C0 (by omega)
  -- what is told where nothing is read: a slice without elements, in a block of its own
  have O0 : ∀ W : World, (W.alloc (.cells #[] 5)).ownsRow W.heap.size 5 1 (.slice (some ⟨W.heap.size, 0, none⟩) 0 0) 0 [] := by
    intro W
    have := World.ownsRow_lit (base := W.heap.size) (e := 5) (size := 1) W #[] 0 (Nat.le_refl _) (by unfold maxLen; omega) rfl
    simpa using this
  have HO0 : Hid (∀ W : World, (W.alloc (.cells #[] 5)).ownsRow W.heap.size 5 1 (.slice (some ⟨W.heap.size, 0, none⟩) 0 0) 0 []) := O0
  clear O0 d0
  cases hV : validB d with
  | false =>
    have hR : readD d b = [] := by unfold readD; rw [if_neg (by rw [hV]; simp)]
    rw [hR]
    go_enter Try.func15, Try.ntmps15
    go_wp2_with fail
    refine (specValid_calls _ dA).mono ?_
    rintro e w1 ⟨rfl, hc⟩
    rw [hV]
    have hch := C0.trans hc
    have hsz := hch.size
    clear hc C0 dA hR B0
    go_wp2
    go_ret
    exact ⟨_, rfl, OwnB.base (HO0.out w1) (fun g hg => by cases hg; exact hsz), hch.alloc _⟩
  | true =>
    have hVal := (validB_iff d).1 hV
    by_cases hb0 : 0 ≤ b
    case neg =>
      have hR : readD d b = [] := by unfold readD; rw [if_neg (fun h => hb0 h.2.1)]
      rw [hR]
      go_enter Try.func15, Try.ntmps15
      go_wp2_with fail
      refine (specValid_calls _ dA).mono ?_
      rintro e w1 ⟨rfl, hc⟩
      rw [hV]
      have hch := C0.trans hc
      have hsz := hch.size
      clear hc C0 dA hR B0 hVal
      go_wp2
      go_ret
      exact ⟨_, rfl, OwnB.base (HO0.out w1) (fun g hg => by cases hg; exact hsz), hch.alloc _⟩
    by_cases hb1 : b < ((d.dur.length / 64 : Nat) : Int)
    case neg =>
      have hR : readD d b = [] := by unfold readD; rw [if_neg (fun h => hb1 h.2.2)]
      rw [hR]
      go_enter Try.func15, Try.ntmps15
      go_wp2_with fail
      refine (specValid_calls _ dA).mono ?_
      rintro e w1 ⟨rfl, hc⟩
      rw [hV]
      have s1 := hc.size
      have B1 := (hc.block w.heap.size (by omega) (by omega)).trans B0
      obtain ⟨x0, x1, _, _⟩ := two_cells B1
      have hch := C0.trans hc
      clear hc C0 dA hR B0 hVal
      go_wp2_with fail
      refine (l1Blocks_calls _ _ _ _ _ hl1).mono ?_
      rintro e w2 ⟨rfl, hc2⟩
      have hch2 := hch.trans hc2
      have hsz := hch2.size
      clear hc2 hch B1 x0 x1
      go_wp2
      go_ret
      exact ⟨_, rfl, OwnB.base (HO0.out w2) (fun g hg => by cases hg; exact hsz), hch2.alloc _⟩
    have hR : readD d b = see d b.toNat := by unfold readD; rw [if_pos ⟨hV, hb0, hb1⟩]
    rw [hR]
    clear hR HO0
    go_enter Try.func15, Try.ntmps15
    go_wp2_with fail
    refine (specValid_calls _ dA).mono ?_
    rintro e w1 ⟨rfl, hc⟩
    rw [hV]
    have s1 := hc.size
    have B1 := (hc.block w.heap.size (by omega) (by omega)).trans B0
    obtain ⟨x0, x1, _, _⟩ := two_cells B1
    have hch := C0.trans hc
    have d1 := dA.chg hc (by omega)
    clear hc C0 dA B0
    go_wp2_with fail
    refine (l1Blocks_calls _ _ _ _ _ hl1).mono ?_
    rintro e w2 ⟨rfl, hc2⟩
    have s2 := hc2.size
    have B2 := (hc2.block w.heap.size (by omega) (by omega)).trans B1
    have hch2 := hch.trans hc2
    have d2 := d1.chg hc2 (by omega)
    have hsz := hch2.size
    clear hc2 hch B1 x0 x1 d1
    obtain ⟨x0, x1, _, _⟩ := two_cells B2
    obtain ⟨n, rfl⟩ := Int.eq_ofNat_of_zero_le hb0
    have hn : n < d.dur.length / 64 := by omega
    go_wp2_with fail
    refine (l1See_calls _ n d2 hVal hn).mono ?_
    rintro e w3 ⟨u, rfl, ho, hc3⟩
    have HO : Hid (OwnB w3 w.heap.size 5 u (see d n)) := ho.base (fun g' hg' => Nat.le_trans hsz (ho.lt g' hg').1)
    have hch3 := hch2.trans hc3
    clear hc3 hch2 ho d2 B2 x0 x1
    go_wp2
    go_ret
    exact ⟨_, rfl, HO.out, hch3⟩
end Go.Proofs.Ytlkkfbmobgikmah

/- The law on the disk. -/
import Derived.Test.YtplfehjaakkldaaDrawDo2
import Derived.Test.YtplfehjaakkldaaDiskMath
import Derived.Test.YtplfehjaakkldaaSpecDo
import Derived.Test.YtplfehjaakkldaaFlush
import Derived.Test.YtplfehjaakkldaaLwAt
import Derived.Test.YtplfehjaakkldaaLwKeep
import Derived.Test.YtplfehjaakkldaaLwBlock
import Derived.Test.YtplfehjaakkldaaLwSameD
import Derived.Test.YtplfehjaakkldaaLwCopy
import Derived.Test.YtplfehjaakkldaaOpenB
import Derived.Test.YtplfehjaakkldaaInv
import Derived.Deep.DeepCutAuto
namespace Go.Proofs.Ytplfehjaakkldaa
open Go.ChangeShapes Go.WideShapes Go.ChangeAt Go.RowKit

theorem Small.fit {d : Dsk} (h : Small d) : d.Fits := ⟨by have := h.1; omega, by have := h.2.1; omega, fun i hi => by have := h.2.2 i hi; omega⟩

/-- A disk in a block of its own. -/
def DAt (w : World) (B : Nat) (v : Value) : Prop := ∃ a b c a' b' c', v = .agg #[.slice a b c, .slice a' b' c'] ∧ w.heap[B]? = some (.cells #[.slice a b c, .slice a' b' c'] 29 (0, 0))

theorem doD_fit (d : Dsk) (os : List Opx) (n : Int) : (doD d os n).Fits := by
  unfold doD
  split
  · rename_i hc
    cases hr : runD d (firstN os n) with
    | none => exact ⟨by simp [Dsk.none], by simp [Dsk.none], by simp [Dsk.none]⟩
    | some d' => exact (runD_keeps hr ((validB_iff d).1 hc.1)).fit
  · exact ⟨by simp [Dsk.none], by simp [Dsk.none], by simp [Dsk.none]⟩

theorem field_dur' (w : World) (a : Option Addr) (l c : Nat) (y : Value) : (Instr.field 29 (.agg #[.slice a l c, y]) 0).run Try.prog w = .ok (.slice a l c) w := by
  simp [Instr.field, run_underlying Try.underlying29, asAgg, part, isAgg, run_underlying Try.underlying22]

/-- Two may come up. -/
theorem held_twoD {P : Program} {md : Region.Mode} {ops : Array Oper} {Q : Exit → Act → World → Prop} {S : World → Prop} (i j : Nat) {oi oj : Oper} {fuel : Nat} {listed : Array Bool} {a : Act} {w : World} (hi : ops[i]? = some oi) (hj : ops[j]? = some oj) (gi : oi.guard = none) (gj : oj.guard = none)
    (hr : Region.ready md ops listed = [i, j])
    (h1 : oi.wp P a w (fun a' w' => S w' ∧ wpAnyH P md ops Q S fuel (listed.setIfInBounds i true) a' w') Q)
    (h2 : oj.wp P a w (fun a' w' => S w' ∧ wpAnyH P md ops Q S fuel (listed.setIfInBounds j true) a' w') Q) : wpAnyH P md ops Q S (fuel + 1) listed a w := by
  refine ⟨fun h0 => (by rw [hr] at h0; cases h0), fun k hk => ?_⟩
  rw [hr] at hk
  simp only [List.mem_cons, List.not_mem_nil, or_false] at hk
  rcases hk with rfl | rfl
  · unfold wpOp
    simp only [hi]
    rw [if_pos (by simp [Region.wanted, gi])]
    exact .inl h1
  · unfold wpOp
    simp only [hj]
    rw [if_pos (by simp [Region.wanted, gj])]
    exact .inl h2

theorem OView.drop {w : World} {lo hi b cap : Nat} {os : List Opx} (h : OView w lo hi (.slice (some ⟨b, 0, none⟩) os.length cap) os) (r : Nat) (hr : r ≤ os.length) : OView w lo hi (.slice (some ⟨b, if cap = r then 0 else r * 3, none⟩) (os.length - r) (cap - r)) (os.drop r) := by
  obtain ⟨ao', cap', e, hl, hc, h⟩ := h
  cases e
  have hlen : (os.drop r).length = os.length - r := List.length_drop
  refine ⟨_, _, by rw [hlen], by omega, by omega, ?_⟩
  rcases h with h | ⟨b', off, ha, h1, h2, h3⟩
  · left; rw [h]; simp
  · cases ha
    by_cases e : cap = r
    · left
      exact List.drop_eq_nil_of_le (by omega)
    · rw [if_neg e]
      refine Or.inr ⟨b, r * 3, rfl, h1, h2, fun i hi => ?_⟩
      rw [hlen] at hi
      have e2 : (os.drop r).getD i Opx.zero = os.getD (r + i) Opx.zero := by simp [List.getD_eq_getElem?_getD]
      obtain ⟨dv, c1, c2, c3, vw⟩ := h3 (r + i) (by omega)
      rw [e2]
      have ea : 0 + (r + i) * 3 = r * 3 + i * 3 := by omega
      rw [ea] at c1 c2 c3
      exact ⟨dv, c1, c2, c3, vw⟩

theorem View.shape {w : World} {lo hi : Nat} {k : IntKind} {v : Value} {xs : List Int} (h : View w lo hi k v xs) : ∃ a n c, v = .slice a n c := by
  obtain ⟨a, c, rfl, _⟩ := h
  exact ⟨a, _, c, rfl⟩

theorem ownD_len {w : World} {lo hi : Nat} {eW eB : TypeId} {v : Value} {d : Dsk} (h : OwnD w lo hi eW eB v d) : ∃ a c a' c', v = .agg #[.slice a d.dur.length c, .slice a' d.pend.length c'] := by
  obtain ⟨dv, pv, _, _, h⟩ := h
  have h1 : ∃ a c, dv = .slice a d.dur.length c := by
    rcases h.dur.2 with ⟨rfl, h0⟩ | ⟨g, cap, cur, rfl, _⟩
    · exact ⟨none, 0, by rw [h0]⟩
    · exact ⟨_, _, rfl⟩
  have h2 : ∃ a c, pv = .slice a d.pend.length c := by
    rcases h.pend.row.2 with ⟨rfl, h0⟩ | ⟨g, cap, cur, rfl, _⟩
    · exact ⟨none, 0, by rw [h0]⟩
    · exact ⟨_, _, rfl⟩
  obtain ⟨a, c, rfl⟩ := h1
  obtain ⟨a', c', rfl⟩ := h2
  exact ⟨a, c, a', c', h.agg⟩

/-- What each operation of the law's second test leaves. -/
def diskG (aW aT aD ov tv : Value) (r : Nat) (d d1 : Dsk) : Nat → Value → World → Prop
  | 0, v, _ => v = aW
  | 1, v, _ => v = aT
  | 5, v, _ | 10, v, _ => v = aD
  | 7, v, _ | 12, v, _ => v = ov
  | 8, v, _ | 13, v, _ => v = .int .i64 r
  | 14, v, _ => v = tv
  | 6, v, w | 11, v, w => ∃ lo hi, DView w lo hi v d
  | 9, v, w | 15, v, w => ∃ lo hi, DView w lo hi v d1
  | 2, v, _ | 16, v, _ => v = .bool true
  | _, v, _ => v = .bool false

theorem diskG_mono (aW aT aD ov tv : Value) (r : Nat) (d d1 : Dsk) : ∀ i v w w', Chg 0 0 w w' → diskG aW aT aD ov tv r d d1 i v w → diskG aW aT aD ov tv r d d1 i v w' := by
  intro i v w w' hc h
  unfold diskG at *
  split at h
  all_goals first | exact h | (obtain ⟨lo, hi, h⟩ := h; exact ⟨lo, hi, h.chg hc (by omega)⟩)

theorem len19 (l : List Value) (h : l.length = 19) : ∃ x0 x1 x2 x3 x4 x5 x6 x7 x8 x9 x10 x11 x12 x13 x14 x15 x16 x17 x18, l = [x0, x1, x2, x3, x4, x5, x6, x7, x8, x9, x10, x11, x12, x13, x14, x15, x16, x17, x18] := by
  match l, h with
  | [x0, x1, x2, x3, x4, x5, x6, x7, x8, x9, x10, x11, x12, x13, x14, x15, x16, x17, x18], _ => exact ⟨_, _, _, _, _, _, _, _, _, _, _, _, _, _, _, _, _, _, _, rfl⟩

set_option maxRecDepth 20000 in
set_option maxHeartbeats 32000000 in
theorem lawDisk_walk (w : World) {hi hi' : Nat} {a b : Value} {xs ms : List Int} (hX : Byt xs) (hM : Byt ms) (h1 : View w 0 hi .u8 a xs) (h2 : View w 0 hi' .u8 b ms) (hh : hi ≤ w.heap.size) :
    Calls Try.prog 7 #[a, b] w fun e w' => e = .returned (.bool true) ∧ Below w.heap.size w w' := by
  have v1 := h1
  have v2 := h2
  obtain ⟨ao, acap, rfl, ha0, _, _⟩ := h1
  obtain ⟨bo, bcap, rfl, hb0, _, _⟩ := h2
  by_cases hla : xs.length ≤ 1048576
  case neg =>
    have hla' : (xs.length : Int) > 1048576 := by omega
    clear v1 v2
    go_enter Try.func7, Try.ntmps7
    go_wp2
    go_ret
    exact ⟨rfl, (Chg.refl 0 0 w).below (by omega)⟩
  by_cases hlb : ms.length ≤ 1048576
  case neg =>
    have hla' : ¬ (xs.length : Int) > 1048576 := by omega
    have hlb' : (ms.length : Int) > 1048576 := by omega
    clear v1 v2
    go_enter Try.func7, Try.ntmps7
    go_wp2
    go_ret
    exact ⟨rfl, (Chg.refl 0 0 w).below (by omega)⟩
  have hla' : ¬ (xs.length : Int) > 1048576 := by omega
  have hlb' : ¬ (ms.length : Int) > 1048576 := by omega
  have HV2 : Hid (View w 0 hi' .u8 (.slice bo ms.length bcap) ms) := v2
  have HM : Hid (Byt ms) := hM
  have hN := drawDiskDo_calls w hX v1 hh hla
  clear v1 v2 hX hM
  go_enter Try.func7, Try.ntmps7
  go_wp2_with fail
  refine hN.mono ?_
  rintro e w1 ⟨v, d, ov, os, l, lo, rfl, hd, hsm, hov, hlo, hol, ⟨og, ocap, hov'⟩, hc1⟩
  subst hov'
  have HS : Hid (Small d) := hsm
  have hd0 := hd
  have ho0 := hov
  obtain ⟨dv, pv, rfl, d1, d2⟩ := hd
  obtain ⟨dao, dcap, rfl, hdl1, _, _⟩ := d1
  obtain ⟨pao, pcap, rfl, hpl1, _, _⟩ := d2
  have hoc : os.length ≤ ocap := by obtain ⟨_, _, e, _, h, _⟩ := hov; cases e; exact h
  clear hov
  have CA : Chg 0 0 w1 (w1.alloc (.cells #[.slice dao d.dur.length dcap, .slice pao d.pend.length pcap] 29)) := Chg.alloc (Chg.refl 0 0 w1) _
  have HD : Hid (DView (w1.alloc (.cells #[.slice dao d.dur.length dcap, .slice pao d.pend.length pcap] 29)) w.heap.size lo (.agg #[.slice dao d.dur.length dcap, .slice pao d.pend.length pcap]) d) := hd0.chg CA (by omega)
  have HO : Hid (OView (w1.alloc (.cells #[.slice dao d.dur.length dcap, .slice pao d.pend.length pcap] 29)) lo w1.heap.size (.slice (some ⟨og, 0, none⟩) os.length ocap) os) := ho0.chg CA (by omega)
  have HB5 : Hid ((w1.alloc (.cells #[.slice dao d.dur.length dcap, .slice pao d.pend.length pcap] 29)).heap[w1.heap.size]? = some (.cells #[.slice dao d.dur.length dcap, .slice pao d.pend.length pcap] 29 (0, 0))) := heap_new _ _
  have HCA : Hid (Chg 0 0 w (w1.alloc (.cells #[.slice dao d.dur.length dcap, .slice pao d.pend.length pcap] 29))) := hc1.trans CA
  have sA : (w1.alloc (.cells #[.slice dao d.dur.length dcap, .slice pao d.pend.length pcap] 29)).heap.size = w1.heap.size + 1 := by simp
  have hN2 := lwAt_calls (w1.alloc (.cells #[.slice dao d.dur.length dcap, .slice pao d.pend.length pcap] 29)) 0 (os.length + 1) (by omega) (by omega) HM.out (HV2.out.chg HCA.out (by omega)) hlb
  have sw1 := hc1.size
  clear hN hd0 ho0 hc1 CA hsm
  go_wp2_with fail
  generalize w1.alloc (.cells #[.slice dao d.dur.length dcap, .slice pao d.pend.length pcap] 29) = wA at *
  refine hN2.mono ?_
  rintro e w2 ⟨⟨r, rfl, hr1, hr2⟩, hs2⟩
  have hr : r ≤ os.length := by omega
  have C2 : Chg 0 0 wA w2 := hs2.chg 0 0
  have s2 := C2.size
  obtain ⟨b0, b1, _, _⟩ := two_cells ((C2.block w1.heap.size (by omega) (by omega)).trans HB5.out)
  have hS := HS.out
  have hN3 := lwCopyDisk_calls w2 (HD.out.chg C2 (by omega)) (by have := hS.1; omega) (by have := hS.2.1; omega) (fun i hi => by have := hS.2.2 i hi; omega)
  clear hN2 hs2 hr1 hr2
  go_wp2_with fail
  refine hN3.mono ?_
  rintro e w3 ⟨vc, rfl, oc, hc3⟩
  have C3 := C2.trans hc3
  have s3 := C3.size
  have hN4 := implDo_calls w3 (-1) (oc.view hS.fit) (HO.out.chg C3 (by omega)) (by omega)
  obtain ⟨k1, k2, k3, k4, k5, k6, rfl⟩ := oc.agg
  clear hN3 oc b0 b1 hc3 C2
  go_wp2_with fail
  refine hN4.mono ?_
  rintro e w4 ⟨vw, rfl, ow, hc4⟩
  obtain ⟨dD, hdD⟩ : ∃ dD, dD = doD d os (-1) := ⟨_, rfl⟩
  rw [← hdD] at ow
  have hfit : dD.Fits := by rw [hdD]; exact doD_fit d os (-1)
  obtain ⟨p1, p3, p4, p6, rfl⟩ := ownD_len ow
  have C4 := C3.trans hc4
  have s4 := C4.size
  have s43 := hc4.size
  have C5 : Chg 0 0 w4 (w4.alloc (.cells #[.slice p1 dD.dur.length p3, .slice p4 dD.pend.length p6] 29)) := Chg.alloc (Chg.refl 0 0 w4) _
  have s5 : (w4.alloc (.cells #[.slice p1 dD.dur.length p3, .slice p4 dD.pend.length p6] 29)).heap.size = w4.heap.size + 1 := by simp
  have HCA5 : Hid (Chg 0 0 wA (w4.alloc (.cells #[.slice p1 dD.dur.length p3, .slice p4 dD.pend.length p6] 29))) := C4.trans C5
  have HW5 : Hid (DView (w4.alloc (.cells #[.slice p1 dD.dur.length p3, .slice p4 dD.pend.length p6] 29)) w3.heap.size w4.heap.size (.agg #[.slice p1 dD.dur.length p3, .slice p4 dD.pend.length p6]) dD) := (ow.view hfit).chg C5 (by omega)
  have HB9 : Hid ((w4.alloc (.cells #[.slice p1 dD.dur.length p3, .slice p4 dD.pend.length p6] 29)).heap[w4.heap.size]? = some (.cells #[.slice p1 dD.dur.length p3, .slice p4 dD.pend.length p6] 29 (0, 0))) := heap_new _ _
  obtain ⟨b0, b1, _, _⟩ := two_cells ((HCA5.out.block w1.heap.size (by omega) (by omega)).trans HB5.out)
  have hN5 := specDo_calls (w4.alloc (.cells #[.slice p1 dD.dur.length p3, .slice p4 dD.pend.length p6] 29)) (-1) (HD.out.chg HCA5.out (by omega)) (HO.out.chg HCA5.out (by omega)) (by have := hS.1; omega)
  have HdD : Hid (dD = doD d os (-1)) := hdD
  have HFit : Hid dD.Fits := hfit
  rw [← hdD] at hN5
  clear hN4 ow hc4 C3 C4 C5 hS hdD hfit
  go_wp2_with fail
  generalize w4.alloc (.cells #[.slice p1 dD.dur.length p3, .slice p4 dD.pend.length p6] 29) = w5 at *
  refine hN5.mono ?_
  rintro e w6 ⟨vt, rfl, ot, hc6⟩
  obtain ⟨q1, q3, q4, q6, rfl⟩ := ownD_len ot
  have s6 := hc6.size
  have C7 : Chg 0 0 w6 (w6.alloc (.cells #[.slice q1 dD.dur.length q3, .slice q4 dD.pend.length q6] 29)) := Chg.alloc (Chg.refl 0 0 w6) _
  have s7 : (w6.alloc (.cells #[.slice q1 dD.dur.length q3, .slice q4 dD.pend.length q6] 29)).heap.size = w6.heap.size + 1 := by simp
  have C57 := hc6.trans C7
  have HCA7 : Hid (Chg 0 0 wA (w6.alloc (.cells #[.slice q1 dD.dur.length q3, .slice q4 dD.pend.length q6] 29))) := HCA5.out.trans C57
  have HW7 : Hid (DView (w6.alloc (.cells #[.slice q1 dD.dur.length q3, .slice q4 dD.pend.length q6] 29)) w3.heap.size w4.heap.size (.agg #[.slice p1 dD.dur.length p3, .slice p4 dD.pend.length p6]) dD) := HW5.out.chg C57 (by omega)
  have HT7 : Hid (DView (w6.alloc (.cells #[.slice q1 dD.dur.length q3, .slice q4 dD.pend.length q6] 29)) w5.heap.size w6.heap.size (.agg #[.slice q1 dD.dur.length q3, .slice q4 dD.pend.length q6]) dD) := (ot.view HFit.out).chg C7 (by omega)
  have HB5' : Hid ((w6.alloc (.cells #[.slice q1 dD.dur.length q3, .slice q4 dD.pend.length q6] 29)).heap[w1.heap.size]? = some (.cells #[.slice dao d.dur.length dcap, .slice pao d.pend.length pcap] 29 (0, 0))) := (HCA7.out.block w1.heap.size (by omega) (by omega)).trans HB5.out
  have HB9' : Hid ((w6.alloc (.cells #[.slice q1 dD.dur.length q3, .slice q4 dD.pend.length q6] 29)).heap[w4.heap.size]? = some (.cells #[.slice p1 dD.dur.length p3, .slice p4 dD.pend.length p6] 29 (0, 0))) := (C57.block w4.heap.size (by omega) (by omega)).trans HB9.out
  have HB10 : Hid ((w6.alloc (.cells #[.slice q1 dD.dur.length q3, .slice q4 dD.pend.length q6] 29)).heap[w6.heap.size]? = some (.cells #[.slice q1 dD.dur.length q3, .slice q4 dD.pend.length q6] 29 (0, 0))) := heap_new _ _
  obtain ⟨b0, b1, _, _⟩ := two_cells HB5'.out
  obtain ⟨c0, c1, _, _⟩ := two_cells HB9'.out
  have hnl : ((dD.dur.length : Int) != dD.dur.length) = false := by simp
  clear hN5 ot hc6 C7 C57 HB5 HB9 HW5
  by_cases hz : dD.dur.length = 0
  · have hz0 : (flushD dD).dur.length = 0 := by rw [HdD.out] at hz ⊢; exact doD_none hz
    have HZ0 : Hid ((flushD dD).dur.length = 0) := hz0
    have hN8 := implDo_calls (w6.alloc (.cells #[.slice q1 dD.dur.length q3, .slice q4 dD.pend.length q6] 29)) (-1) (HD.out.chg HCA7.out (by omega)) (HO.out.chg HCA7.out (by omega)) (by omega)
    rw [← HdD.out] at hN8
    have hzb : ((dD.dur.length : Int) == 0) = true := by rw [hz]; rfl
    clear hz hz0
    go_wp2_with fail
    refine hN8.mono ?_
    rintro e w8 ⟨v8, rfl, o8, hc8⟩
    have hN9 := implFlush_calls w8 (o8.view HFit.out)
    obtain ⟨k1, k2, k3, k4, k5, k6, rfl⟩ := o8.agg
    clear hN8 o8
    go_wp2_with fail
    refine hN9.mono ?_
    rintro e w9 ⟨v9, rfl, o9, hc9⟩
    obtain ⟨r1, r3, r4, r6, rfl⟩ := ownD_len o9
    rw [HZ0.out]
    have hfd := fun w' => field_dur' w' r1 0 r3 (.slice r4 (flushD dD).pend.length r6)
    have HCe : Hid (Chg 0 0 w w9) := ((HCA.out.trans HCA7.out).trans hc8).trans hc9
    clear hN9 o9 hc8 hc9
    go_wp2
    go_ret
    exact ⟨rfl, HCe.out.below (by omega)⟩
  · have hzb : ((dD.dur.length : Int) == 0) = false := by simp only [beq_eq_false_iff_ne, ne_eq]; omega
    have HZ : Hid (dD.dur.length ≠ 0) := hz
    clear hz
    have sW : w1.heap.size < (w6.alloc (.cells #[.slice q1 dD.dur.length q3, .slice q4 dD.pend.length q6] 29)).heap.size := by omega
    have HD7 : Hid (DView (w6.alloc (.cells #[.slice q1 dD.dur.length q3, .slice q4 dD.pend.length q6] 29)) w.heap.size lo (.agg #[.slice dao d.dur.length dcap, .slice pao d.pend.length pcap]) d) := HD.out.chg HCA7.out (by omega)
    have ho7 := HO.out.chg HCA7.out (show w1.heap.size ≤ 0 ∨ 0 ≤ lo ∨ 0 ≤ 0 by omega)
    have HOt : Hid (OView (w6.alloc (.cells #[.slice q1 dD.dur.length q3, .slice q4 dD.pend.length q6] 29)) lo w1.heap.size (.slice (some ⟨og, 0, none⟩) r ocap) (os.take r)) := ho7.take r hr
    obtain ⟨so, hso⟩ : ∃ so, so = if ocap = r then 0 else r * 3 := ⟨_, rfl⟩
    have HOd : Hid (OView (w6.alloc (.cells #[.slice q1 dD.dur.length q3, .slice q4 dD.pend.length q6] 29)) lo w1.heap.size (.slice (some ⟨og, so, none⟩) (os.length - r) (ocap - r)) (os.drop r)) := by rw [hso]; exact ho7.drop r hr
    have HOa : Hid (OView (w6.alloc (.cells #[.slice q1 dD.dur.length q3, .slice q4 dD.pend.length q6] 29)) lo w1.heap.size (.slice (some ⟨og, 0, none⟩) os.length ocap) os) := ho7
    have HCw7 : Hid (Chg 0 0 w (w6.alloc (.cells #[.slice q1 dD.dur.length q3, .slice q4 dD.pend.length q6] 29))) := HCA.out.trans HCA7.out
    have hsome : (doD d os (-1)).dur.length ≠ 0 := by rw [← HdD.out]; exact HZ.out
    have HVal : Hid (Valid dD) := by have := (doD_some hsome).1; rw [← HdD.out] at this; exact this
    have HTwo : Hid (doD (doD d (os.take r) (-1)) (os.drop r) (-1) = dD ∧ doD d os (r : Int) = doD d (os.take r) (-1) ∧ Valid (doD d (os.take r) (-1))) := by have := (doD_some hsome).2 r hr; rw [← HdD.out] at this; exact this
    have HSo : Hid (so = if ocap = r then 0 else r * 3) := hso
    clear hsome ho7 hso HD HO HCA HCA7 HCA5
    go_upto_region 11 with fail
    generalize w6.alloc (.cells #[.slice q1 dD.dur.length q3, .slice q4 dD.pend.length q6] 29) = w7 at *
    go_cut [11] (fun s11 wx => ∃ B a1 c1 a2 c2 lo2 hi2, s11 = .pointer (some ⟨B, 0, none⟩) ∧ wx.heap[B]? = some (.cells #[.slice a1 dD.dur.length c1, .slice a2 dD.pend.length c2] 29 (0, 0)) ∧ DView wx lo2 hi2 (.agg #[.slice a1 dD.dur.length c1, .slice a2 dD.pend.length c2]) dD ∧ Chg 0 0 w7 wx)
    case first =>
      have HS0 : Hid (w7.drew.cell? ⟨w1.heap.size, 0, none⟩ = some (.slice dao d.dur.length dcap) ∧ w7.drew.cell? ⟨w1.heap.size, 1, none⟩ = some (.slice pao d.pend.length pcap)) := ⟨b0, b1⟩
      have HC0 : Hid (Chg 0 0 w7 w7.drew) := Chg.drew (Chg.refl 0 0 w7)
      clear b0 b1 c0 c1
      have hrc : ¬ ocap < r := by omega
      refine held_region (fun w' : World => w'.cell? ⟨w1.heap.size, 0, none⟩ = some (.slice dao d.dur.length dcap) ∧ w'.cell? ⟨w1.heap.size, 1, none⟩ = some (.slice pao d.pend.length pcap)) (by kernel_rfl) ?_
      refine held_take 0 (.agg #[.slice dao d.dur.length dcap, .slice pao d.pend.length pcap]) rfl (by kernel_rfl) (by kernel_rfl) (by kernel_rfl) (fun _ _ _ h => h) (.inl ⟨by kernel_rfl, fun w' hw' => by have h4 := hw'.1; have h5 := hw'.2; go_simp⟩) HS0.out ?_
      go_simp
      refine held_take 2 (.slice (some ⟨og, 0, none⟩) os.length ocap) rfl (by kernel_rfl) (by kernel_rfl) (by kernel_rfl) (fun _ _ _ h => h) (.inl ⟨by kernel_rfl, fun w' hw' => by go_simp⟩) HS0.out ?_
      go_simp
      refine held_take 3 (.int .i64 r) rfl (by kernel_rfl) (by kernel_rfl) (by kernel_rfl) (fun _ _ _ h => h) (.inl ⟨by kernel_rfl, fun w' hw' => by go_simp⟩) HS0.out ?_
      go_simp
      refine held_take 4 (.slice (some ⟨og, 0, none⟩) r ocap) rfl (by kernel_rfl) (by kernel_rfl) (by kernel_rfl) (fun _ _ _ h => h) (.inl ⟨by kernel_rfl, fun w' hw' => by go_simp⟩) HS0.out ?_
      go_simp
      refine held_take 6 (.slice (some ⟨og, 0, none⟩) os.length ocap) rfl (by kernel_rfl) (by kernel_rfl) (by kernel_rfl) (fun _ _ _ h => h) (.inl ⟨by kernel_rfl, fun w' hw' => by go_simp⟩) HS0.out ?_
      go_simp
      refine held_take 7 (.int .i64 r) rfl (by kernel_rfl) (by kernel_rfl) (by kernel_rfl) (fun _ _ _ h => h) (.inl ⟨by kernel_rfl, fun w' hw' => by go_simp⟩) HS0.out ?_
      go_simp
      refine held_take 8 (.slice (some ⟨og, so, none⟩) (os.length - r) (ocap - r)) rfl (by kernel_rfl) (by kernel_rfl) (by kernel_rfl) (fun _ _ _ h => h) (.inl ⟨by kernel_rfl, fun w' hw' => by rw [HSo.out]; go_simp; split <;> rfl⟩) HS0.out ?_
      go_simp
      generalize w7.drew = w7d at *
      clear s7
      refine held_twoD 1 10 rfl rfl rfl rfl (by kernel_rfl) ?_ ?_
      · refine wp_enter 32 #[.agg #[.slice dao d.dur.length dcap, .slice pao d.pend.length pcap]] (by first | kernel_rfl | go_simp) (lwCopyDisk_calls w7d (HD7.out.chg HC0.out (by omega)) (by have := HS.out.1; omega) (by have := HS.out.2.1; omega) (fun i hi => by have := HS.out.2.2 i hi; omega)) ?_
        rintro e W1 ⟨vc1, rfl, oc1, hc1⟩
        have HC1 : Hid (Chg 0 0 w7 W1) := HC0.out.trans hc1
        obtain ⟨x1_1, x2_1, x3_1, x4_1, x5_1, x6_1, rfl⟩ := oc1.agg
        have HV1 : Hid (DView W1 w7d.heap.size W1.heap.size (.agg #[.slice x1_1 x2_1 x3_1, .slice x4_1 x5_1 x6_1]) d) := oc1.view HS.out.fit
        refine ⟨_, rfl, ⟨hc1.cell HS0.out.1 (by omega), hc1.cell HS0.out.2 (by omega)⟩, ?_⟩
        have HS1 : Hid (W1.cell? ⟨w1.heap.size, 0, none⟩ = some (.slice dao d.dur.length dcap) ∧ W1.cell? ⟨w1.heap.size, 1, none⟩ = some (.slice pao d.pend.length pcap)) := ⟨hc1.cell HS0.out.1 (by omega), hc1.cell HS0.out.2 (by omega)⟩
        have hsz1 := hc1.size
        clear oc1 hc1
        go_simp
        refine held_twoD 5 10 rfl rfl rfl rfl (by kernel_rfl) ?_ ?_
        · refine wp_enter 31 #[.agg #[.slice x1_1 x2_1 x3_1, .slice x4_1 x5_1 x6_1], .slice (some ⟨og, 0, none⟩) r ocap, .int .i64 (-1)] (by first | kernel_rfl | go_simp) (implDo_calls W1 (-1) HV1.out (HOt.out.chg HC1.out (by omega)) (by have := HC1.out.size; omega)) ?_
          rintro e W2 ⟨vc2, rfl, oc2, hc2⟩
          have HC2 : Hid (Chg 0 0 w7 W2) := HC1.out.trans hc2
          obtain ⟨x1_2, x3_2, x4_2, x6_2, rfl⟩ := ownD_len oc2
          have HV2 : Hid (DView W2 W1.heap.size W2.heap.size (.agg #[.slice x1_2 (doD d (os.take r) (-1)).dur.length x3_2, .slice x4_2 (doD d (os.take r) (-1)).pend.length x6_2]) (doD d (os.take r) (-1))) := oc2.view (doD_fit d (os.take r) (-1))
          refine ⟨_, rfl, ⟨hc2.cell HS1.out.1 (by omega), hc2.cell HS1.out.2 (by omega)⟩, ?_⟩
          have HS2 : Hid (W2.cell? ⟨w1.heap.size, 0, none⟩ = some (.slice dao d.dur.length dcap) ∧ W2.cell? ⟨w1.heap.size, 1, none⟩ = some (.slice pao d.pend.length pcap)) := ⟨hc2.cell HS1.out.1 (by omega), hc2.cell HS1.out.2 (by omega)⟩
          have hsz2 := hc2.size
          clear oc2 hc2
          go_simp
          refine held_twoD 9 10 rfl rfl rfl rfl (by kernel_rfl) ?_ ?_
          · refine wp_enter 31 #[.agg #[.slice x1_2 (doD d (os.take r) (-1)).dur.length x3_2, .slice x4_2 (doD d (os.take r) (-1)).pend.length x6_2], .slice (some ⟨og, so, none⟩) (os.length - r) (ocap - r), .int .i64 (-1)] (by first | kernel_rfl | go_simp) (implDo_calls W2 (-1) HV2.out (HOd.out.chg HC2.out (by omega)) (by have := HC2.out.size; omega)) ?_
            rintro e W3 ⟨vc3, rfl, oc3, hc3⟩
            have HC3 : Hid (Chg 0 0 w7 W3) := HC2.out.trans hc3
            rw [HTwo.out.1] at oc3
            obtain ⟨x1_3, x3_3, x4_3, x6_3, rfl⟩ := ownD_len oc3
            have HV3 : Hid (DView W3 W2.heap.size W3.heap.size (.agg #[.slice x1_3 dD.dur.length x3_3, .slice x4_3 dD.pend.length x6_3]) dD) := oc3.view HFit.out
            refine ⟨_, rfl, ⟨hc3.cell HS2.out.1 (by omega), hc3.cell HS2.out.2 (by omega)⟩, ?_⟩
            have HS3 : Hid (W3.cell? ⟨w1.heap.size, 0, none⟩ = some (.slice dao d.dur.length dcap) ∧ W3.cell? ⟨w1.heap.size, 1, none⟩ = some (.slice pao d.pend.length pcap)) := ⟨hc3.cell HS2.out.1 (by omega), hc3.cell HS2.out.2 (by omega)⟩
            have hsz3 := hc3.size
            clear oc3 hc3
            go_simp
            refine held_one 10 rfl rfl (by kernel_rfl) ?_
            have hc4 : Chg 0 0 W3 (W3.alloc (.cells #[.slice none 0 0, .slice none 0 0] 29)) := Chg.alloc (Chg.refl 0 0 W3) _
            have HC4 : Hid (Chg 0 0 w7 (W3.alloc (.cells #[.slice none 0 0, .slice none 0 0] 29))) := HC3.out.trans hc4
            have HB4 : Hid ((W3.alloc (.cells #[.slice none 0 0, .slice none 0 0] 29)).heap[W3.heap.size]? = some (.cells #[.slice none 0 0, .slice none 0 0] 29 (0, 0))) := heap_new _ _
            have HS4 : Hid ((W3.alloc (.cells #[.slice none 0 0, .slice none 0 0] 29)).cell? ⟨w1.heap.size, 0, none⟩ = some (.slice dao d.dur.length dcap) ∧ (W3.alloc (.cells #[.slice none 0 0, .slice none 0 0] 29)).cell? ⟨w1.heap.size, 1, none⟩ = some (.slice pao d.pend.length pcap)) := ⟨hc4.cell HS3.out.1 (by omega), hc4.cell HS3.out.2 (by omega)⟩
            have hz4 : (W3.alloc (.cells #[.slice none 0 0, .slice none 0 0] 29)).heap.size = W3.heap.size + 1 := by simp
            have HV4 : Hid (DView (W3.alloc (.cells #[.slice none 0 0, .slice none 0 0] 29)) W2.heap.size W3.heap.size (.agg #[.slice x1_3 dD.dur.length x3_3, .slice x4_3 dD.pend.length x6_3]) dD) := HV3.out.chg hc4 (by omega)
            refine wp_given (v := .pointer (some ⟨W3.heap.size, 0, none⟩)) (w' := W3.alloc (.cells #[.slice none 0 0, .slice none 0 0] 29)) (by first | kernel_rfl | go_simp) ⟨HS4.out, ?_⟩
            clear hc4
            generalize W3.alloc (.cells #[.slice none 0 0, .slice none 0 0] 29) = W4 at *
            go_simp
            refine held_one 11 rfl rfl (by kernel_rfl) ?_
            refine wp_store_row 29 (.tmp 11) (.tmp 72) rfl rfl W3.heap.size rfl [.slice x1_3 dD.dur.length x3_3, .slice x4_3 dD.pend.length x6_3] [.slice none 0 0, .slice none 0 0] 29 rfl HB4.out rfl (by kernel_rfl) (by simp [Value.oneCell']) ?_
            intro W5 hb5 hc5
            have hq5 := HC4.out.size
            have hw5 : w7.heap.size ≤ W3.heap.size := HC3.out.size
            have HC5 : Hid (Chg 0 0 w7 W5) := HC4.out.step hc5 (by omega)
            have HV5 : Hid (DView W5 W2.heap.size W3.heap.size (.agg #[.slice x1_3 dD.dur.length x3_3, .slice x4_3 dD.pend.length x6_3]) dD) := HV4.out.chg hc5 (by omega)
            have HB5 : Hid (W5.heap[W3.heap.size]? = some (.cells #[.slice x1_3 dD.dur.length x3_3, .slice x4_3 dD.pend.length x6_3] 29 (0, 0))) := hb5
            refine ⟨⟨hc5.cell HS4.out.1 (by omega), hc5.cell HS4.out.2 (by omega)⟩, ?_⟩
            clear hb5 hc5
            refine held_done (by kernel_rfl) (NoPanic.normal ?_)
            go_wp2
            go_meet
            exact ⟨_, _, _, _, _, _, _, rfl, HB5.out, HV5.out, HC5.out⟩
          · have hc6 : Chg 0 0 W2 (W2.alloc (.cells #[.slice none 0 0, .slice none 0 0] 29)) := Chg.alloc (Chg.refl 0 0 W2) _
            have HC6 : Hid (Chg 0 0 w7 (W2.alloc (.cells #[.slice none 0 0, .slice none 0 0] 29))) := HC2.out.trans hc6
            have HB6 : Hid ((W2.alloc (.cells #[.slice none 0 0, .slice none 0 0] 29)).heap[W2.heap.size]? = some (.cells #[.slice none 0 0, .slice none 0 0] 29 (0, 0))) := heap_new _ _
            have HS6 : Hid ((W2.alloc (.cells #[.slice none 0 0, .slice none 0 0] 29)).cell? ⟨w1.heap.size, 0, none⟩ = some (.slice dao d.dur.length dcap) ∧ (W2.alloc (.cells #[.slice none 0 0, .slice none 0 0] 29)).cell? ⟨w1.heap.size, 1, none⟩ = some (.slice pao d.pend.length pcap)) := ⟨hc6.cell HS2.out.1 (by omega), hc6.cell HS2.out.2 (by omega)⟩
            have hz6 : (W2.alloc (.cells #[.slice none 0 0, .slice none 0 0] 29)).heap.size = W2.heap.size + 1 := by simp
            have HV6 : Hid (DView (W2.alloc (.cells #[.slice none 0 0, .slice none 0 0] 29)) W1.heap.size W2.heap.size (.agg #[.slice x1_2 (doD d (os.take r) (-1)).dur.length x3_2, .slice x4_2 (doD d (os.take r) (-1)).pend.length x6_2]) (doD d (os.take r) (-1))) := HV2.out.chg hc6 (by omega)
            refine wp_given (v := .pointer (some ⟨W2.heap.size, 0, none⟩)) (w' := W2.alloc (.cells #[.slice none 0 0, .slice none 0 0] 29)) (by first | kernel_rfl | go_simp) ⟨HS6.out, ?_⟩
            clear hc6
            generalize W2.alloc (.cells #[.slice none 0 0, .slice none 0 0] 29) = W6 at *
            go_simp
            refine held_one 9 rfl rfl (by kernel_rfl) ?_
            refine wp_enter 31 #[.agg #[.slice x1_2 (doD d (os.take r) (-1)).dur.length x3_2, .slice x4_2 (doD d (os.take r) (-1)).pend.length x6_2], .slice (some ⟨og, so, none⟩) (os.length - r) (ocap - r), .int .i64 (-1)] (by first | kernel_rfl | go_simp) (implDo_calls W6 (-1) HV6.out (HOd.out.chg HC6.out (by omega)) (by have := HC6.out.size; omega)) ?_
            rintro e W7 ⟨vc7, rfl, oc7, hc7⟩
            have HC7 : Hid (Chg 0 0 w7 W7) := HC6.out.trans hc7
            rw [HTwo.out.1] at oc7
            obtain ⟨x1_7, x3_7, x4_7, x6_7, rfl⟩ := ownD_len oc7
            have HV7 : Hid (DView W7 W6.heap.size W7.heap.size (.agg #[.slice x1_7 dD.dur.length x3_7, .slice x4_7 dD.pend.length x6_7]) dD) := oc7.view HFit.out
            refine ⟨_, rfl, ⟨hc7.cell HS6.out.1 (by omega), hc7.cell HS6.out.2 (by omega)⟩, ?_⟩
            have HS7 : Hid (W7.cell? ⟨w1.heap.size, 0, none⟩ = some (.slice dao d.dur.length dcap) ∧ W7.cell? ⟨w1.heap.size, 1, none⟩ = some (.slice pao d.pend.length pcap)) := ⟨hc7.cell HS6.out.1 (by omega), hc7.cell HS6.out.2 (by omega)⟩
            have HB7 : Hid (W7.heap[W2.heap.size]? = some (.cells #[.slice none 0 0, .slice none 0 0] 29 (0, 0))) := (hc7.block _ (Array.getElem?_eq_some_iff.1 HB6.out).1 (by omega)).trans HB6.out
            have hsz7 := hc7.size
            clear oc7 hc7
            go_simp
            refine held_one 11 rfl rfl (by kernel_rfl) ?_
            refine wp_store_row 29 (.tmp 11) (.tmp 72) rfl rfl W2.heap.size rfl [.slice x1_7 dD.dur.length x3_7, .slice x4_7 dD.pend.length x6_7] [.slice none 0 0, .slice none 0 0] 29 rfl HB7.out rfl (by kernel_rfl) (by simp [Value.oneCell']) ?_
            intro W8 hb8 hc8
            have hq8 := HC7.out.size
            have hw8 : w7.heap.size ≤ W2.heap.size := HC2.out.size
            have HC8 : Hid (Chg 0 0 w7 W8) := HC7.out.step hc8 (by omega)
            have HV8 : Hid (DView W8 W6.heap.size W7.heap.size (.agg #[.slice x1_7 dD.dur.length x3_7, .slice x4_7 dD.pend.length x6_7]) dD) := HV7.out.chg hc8 (by omega)
            have HB8 : Hid (W8.heap[W2.heap.size]? = some (.cells #[.slice x1_7 dD.dur.length x3_7, .slice x4_7 dD.pend.length x6_7] 29 (0, 0))) := hb8
            refine ⟨⟨hc8.cell HS7.out.1 (by omega), hc8.cell HS7.out.2 (by omega)⟩, ?_⟩
            clear hb8 hc8
            refine held_done (by kernel_rfl) (NoPanic.normal ?_)
            go_wp2
            go_meet
            exact ⟨_, _, _, _, _, _, _, rfl, HB8.out, HV8.out, HC8.out⟩
        · have hc9 : Chg 0 0 W1 (W1.alloc (.cells #[.slice none 0 0, .slice none 0 0] 29)) := Chg.alloc (Chg.refl 0 0 W1) _
          have HC9 : Hid (Chg 0 0 w7 (W1.alloc (.cells #[.slice none 0 0, .slice none 0 0] 29))) := HC1.out.trans hc9
          have HB9 : Hid ((W1.alloc (.cells #[.slice none 0 0, .slice none 0 0] 29)).heap[W1.heap.size]? = some (.cells #[.slice none 0 0, .slice none 0 0] 29 (0, 0))) := heap_new _ _
          have HS9 : Hid ((W1.alloc (.cells #[.slice none 0 0, .slice none 0 0] 29)).cell? ⟨w1.heap.size, 0, none⟩ = some (.slice dao d.dur.length dcap) ∧ (W1.alloc (.cells #[.slice none 0 0, .slice none 0 0] 29)).cell? ⟨w1.heap.size, 1, none⟩ = some (.slice pao d.pend.length pcap)) := ⟨hc9.cell HS1.out.1 (by omega), hc9.cell HS1.out.2 (by omega)⟩
          have hz9 : (W1.alloc (.cells #[.slice none 0 0, .slice none 0 0] 29)).heap.size = W1.heap.size + 1 := by simp
          have HV9 : Hid (DView (W1.alloc (.cells #[.slice none 0 0, .slice none 0 0] 29)) w7d.heap.size W1.heap.size (.agg #[.slice x1_1 x2_1 x3_1, .slice x4_1 x5_1 x6_1]) d) := HV1.out.chg hc9 (by omega)
          refine wp_given (v := .pointer (some ⟨W1.heap.size, 0, none⟩)) (w' := W1.alloc (.cells #[.slice none 0 0, .slice none 0 0] 29)) (by first | kernel_rfl | go_simp) ⟨HS9.out, ?_⟩
          clear hc9
          generalize W1.alloc (.cells #[.slice none 0 0, .slice none 0 0] 29) = W9 at *
          go_simp
          refine held_one 5 rfl rfl (by kernel_rfl) ?_
          refine wp_enter 31 #[.agg #[.slice x1_1 x2_1 x3_1, .slice x4_1 x5_1 x6_1], .slice (some ⟨og, 0, none⟩) r ocap, .int .i64 (-1)] (by first | kernel_rfl | go_simp) (implDo_calls W9 (-1) HV9.out (HOt.out.chg HC9.out (by omega)) (by have := HC9.out.size; omega)) ?_
          rintro e W10 ⟨vc10, rfl, oc10, hc10⟩
          have HC10 : Hid (Chg 0 0 w7 W10) := HC9.out.trans hc10
          obtain ⟨x1_10, x3_10, x4_10, x6_10, rfl⟩ := ownD_len oc10
          have HV10 : Hid (DView W10 W9.heap.size W10.heap.size (.agg #[.slice x1_10 (doD d (os.take r) (-1)).dur.length x3_10, .slice x4_10 (doD d (os.take r) (-1)).pend.length x6_10]) (doD d (os.take r) (-1))) := oc10.view (doD_fit d (os.take r) (-1))
          refine ⟨_, rfl, ⟨hc10.cell HS9.out.1 (by omega), hc10.cell HS9.out.2 (by omega)⟩, ?_⟩
          have HS10 : Hid (W10.cell? ⟨w1.heap.size, 0, none⟩ = some (.slice dao d.dur.length dcap) ∧ W10.cell? ⟨w1.heap.size, 1, none⟩ = some (.slice pao d.pend.length pcap)) := ⟨hc10.cell HS9.out.1 (by omega), hc10.cell HS9.out.2 (by omega)⟩
          have HB10 : Hid (W10.heap[W1.heap.size]? = some (.cells #[.slice none 0 0, .slice none 0 0] 29 (0, 0))) := (hc10.block _ (Array.getElem?_eq_some_iff.1 HB9.out).1 (by omega)).trans HB9.out
          have hsz10 := hc10.size
          clear oc10 hc10
          go_simp
          refine held_one 9 rfl rfl (by kernel_rfl) ?_
          refine wp_enter 31 #[.agg #[.slice x1_10 (doD d (os.take r) (-1)).dur.length x3_10, .slice x4_10 (doD d (os.take r) (-1)).pend.length x6_10], .slice (some ⟨og, so, none⟩) (os.length - r) (ocap - r), .int .i64 (-1)] (by first | kernel_rfl | go_simp) (implDo_calls W10 (-1) HV10.out (HOd.out.chg HC10.out (by omega)) (by have := HC10.out.size; omega)) ?_
          rintro e W11 ⟨vc11, rfl, oc11, hc11⟩
          have HC11 : Hid (Chg 0 0 w7 W11) := HC10.out.trans hc11
          rw [HTwo.out.1] at oc11
          obtain ⟨x1_11, x3_11, x4_11, x6_11, rfl⟩ := ownD_len oc11
          have HV11 : Hid (DView W11 W10.heap.size W11.heap.size (.agg #[.slice x1_11 dD.dur.length x3_11, .slice x4_11 dD.pend.length x6_11]) dD) := oc11.view HFit.out
          refine ⟨_, rfl, ⟨hc11.cell HS10.out.1 (by omega), hc11.cell HS10.out.2 (by omega)⟩, ?_⟩
          have HS11 : Hid (W11.cell? ⟨w1.heap.size, 0, none⟩ = some (.slice dao d.dur.length dcap) ∧ W11.cell? ⟨w1.heap.size, 1, none⟩ = some (.slice pao d.pend.length pcap)) := ⟨hc11.cell HS10.out.1 (by omega), hc11.cell HS10.out.2 (by omega)⟩
          have HB11 : Hid (W11.heap[W1.heap.size]? = some (.cells #[.slice none 0 0, .slice none 0 0] 29 (0, 0))) := (hc11.block _ (Array.getElem?_eq_some_iff.1 HB10.out).1 (by omega)).trans HB10.out
          have hsz11 := hc11.size
          clear oc11 hc11
          go_simp
          refine held_one 11 rfl rfl (by kernel_rfl) ?_
          refine wp_store_row 29 (.tmp 11) (.tmp 72) rfl rfl W1.heap.size rfl [.slice x1_11 dD.dur.length x3_11, .slice x4_11 dD.pend.length x6_11] [.slice none 0 0, .slice none 0 0] 29 rfl HB11.out rfl (by kernel_rfl) (by simp [Value.oneCell']) ?_
          intro W12 hb12 hc12
          have hq12 := HC11.out.size
          have hw12 : w7.heap.size ≤ W1.heap.size := HC1.out.size
          have HC12 : Hid (Chg 0 0 w7 W12) := HC11.out.step hc12 (by omega)
          have HV12 : Hid (DView W12 W10.heap.size W11.heap.size (.agg #[.slice x1_11 dD.dur.length x3_11, .slice x4_11 dD.pend.length x6_11]) dD) := HV11.out.chg hc12 (by omega)
          have HB12 : Hid (W12.heap[W1.heap.size]? = some (.cells #[.slice x1_11 dD.dur.length x3_11, .slice x4_11 dD.pend.length x6_11] 29 (0, 0))) := hb12
          refine ⟨⟨hc12.cell HS11.out.1 (by omega), hc12.cell HS11.out.2 (by omega)⟩, ?_⟩
          clear hb12 hc12
          refine held_done (by kernel_rfl) (NoPanic.normal ?_)
          go_wp2
          go_meet
          exact ⟨_, _, _, _, _, _, _, rfl, HB12.out, HV12.out, HC12.out⟩
      · have hc13 : Chg 0 0 w7d (w7d.alloc (.cells #[.slice none 0 0, .slice none 0 0] 29)) := Chg.alloc (Chg.refl 0 0 w7d) _
        have HC13 : Hid (Chg 0 0 w7 (w7d.alloc (.cells #[.slice none 0 0, .slice none 0 0] 29))) := HC0.out.trans hc13
        have HB13 : Hid ((w7d.alloc (.cells #[.slice none 0 0, .slice none 0 0] 29)).heap[w7d.heap.size]? = some (.cells #[.slice none 0 0, .slice none 0 0] 29 (0, 0))) := heap_new _ _
        have HS13 : Hid ((w7d.alloc (.cells #[.slice none 0 0, .slice none 0 0] 29)).cell? ⟨w1.heap.size, 0, none⟩ = some (.slice dao d.dur.length dcap) ∧ (w7d.alloc (.cells #[.slice none 0 0, .slice none 0 0] 29)).cell? ⟨w1.heap.size, 1, none⟩ = some (.slice pao d.pend.length pcap)) := ⟨hc13.cell HS0.out.1 (by omega), hc13.cell HS0.out.2 (by omega)⟩
        have hz13 : (w7d.alloc (.cells #[.slice none 0 0, .slice none 0 0] 29)).heap.size = w7d.heap.size + 1 := by simp
        refine wp_given (v := .pointer (some ⟨w7d.heap.size, 0, none⟩)) (w' := w7d.alloc (.cells #[.slice none 0 0, .slice none 0 0] 29)) (by first | kernel_rfl | go_simp) ⟨HS13.out, ?_⟩
        clear hc13
        generalize w7d.alloc (.cells #[.slice none 0 0, .slice none 0 0] 29) = W13 at *
        go_simp
        refine held_one 1 rfl rfl (by kernel_rfl) ?_
        refine wp_enter 32 #[.agg #[.slice dao d.dur.length dcap, .slice pao d.pend.length pcap]] (by first | kernel_rfl | go_simp) (lwCopyDisk_calls W13 (HD7.out.chg HC13.out (by omega)) (by have := HS.out.1; omega) (by have := HS.out.2.1; omega) (fun i hi => by have := HS.out.2.2 i hi; omega)) ?_
        rintro e W14 ⟨vc14, rfl, oc14, hc14⟩
        have HC14 : Hid (Chg 0 0 w7 W14) := HC13.out.trans hc14
        obtain ⟨x1_14, x2_14, x3_14, x4_14, x5_14, x6_14, rfl⟩ := oc14.agg
        have HV14 : Hid (DView W14 W13.heap.size W14.heap.size (.agg #[.slice x1_14 x2_14 x3_14, .slice x4_14 x5_14 x6_14]) d) := oc14.view HS.out.fit
        refine ⟨_, rfl, ⟨hc14.cell HS13.out.1 (by omega), hc14.cell HS13.out.2 (by omega)⟩, ?_⟩
        have HS14 : Hid (W14.cell? ⟨w1.heap.size, 0, none⟩ = some (.slice dao d.dur.length dcap) ∧ W14.cell? ⟨w1.heap.size, 1, none⟩ = some (.slice pao d.pend.length pcap)) := ⟨hc14.cell HS13.out.1 (by omega), hc14.cell HS13.out.2 (by omega)⟩
        have HB14 : Hid (W14.heap[w7d.heap.size]? = some (.cells #[.slice none 0 0, .slice none 0 0] 29 (0, 0))) := (hc14.block _ (Array.getElem?_eq_some_iff.1 HB13.out).1 (by omega)).trans HB13.out
        have hsz14 := hc14.size
        clear oc14 hc14
        go_simp
        refine held_one 5 rfl rfl (by kernel_rfl) ?_
        refine wp_enter 31 #[.agg #[.slice x1_14 x2_14 x3_14, .slice x4_14 x5_14 x6_14], .slice (some ⟨og, 0, none⟩) r ocap, .int .i64 (-1)] (by first | kernel_rfl | go_simp) (implDo_calls W14 (-1) HV14.out (HOt.out.chg HC14.out (by omega)) (by have := HC14.out.size; omega)) ?_
        rintro e W15 ⟨vc15, rfl, oc15, hc15⟩
        have HC15 : Hid (Chg 0 0 w7 W15) := HC14.out.trans hc15
        obtain ⟨x1_15, x3_15, x4_15, x6_15, rfl⟩ := ownD_len oc15
        have HV15 : Hid (DView W15 W14.heap.size W15.heap.size (.agg #[.slice x1_15 (doD d (os.take r) (-1)).dur.length x3_15, .slice x4_15 (doD d (os.take r) (-1)).pend.length x6_15]) (doD d (os.take r) (-1))) := oc15.view (doD_fit d (os.take r) (-1))
        refine ⟨_, rfl, ⟨hc15.cell HS14.out.1 (by omega), hc15.cell HS14.out.2 (by omega)⟩, ?_⟩
        have HS15 : Hid (W15.cell? ⟨w1.heap.size, 0, none⟩ = some (.slice dao d.dur.length dcap) ∧ W15.cell? ⟨w1.heap.size, 1, none⟩ = some (.slice pao d.pend.length pcap)) := ⟨hc15.cell HS14.out.1 (by omega), hc15.cell HS14.out.2 (by omega)⟩
        have HB15 : Hid (W15.heap[w7d.heap.size]? = some (.cells #[.slice none 0 0, .slice none 0 0] 29 (0, 0))) := (hc15.block _ (Array.getElem?_eq_some_iff.1 HB14.out).1 (by omega)).trans HB14.out
        have hsz15 := hc15.size
        clear oc15 hc15
        go_simp
        refine held_one 9 rfl rfl (by kernel_rfl) ?_
        refine wp_enter 31 #[.agg #[.slice x1_15 (doD d (os.take r) (-1)).dur.length x3_15, .slice x4_15 (doD d (os.take r) (-1)).pend.length x6_15], .slice (some ⟨og, so, none⟩) (os.length - r) (ocap - r), .int .i64 (-1)] (by first | kernel_rfl | go_simp) (implDo_calls W15 (-1) HV15.out (HOd.out.chg HC15.out (by omega)) (by have := HC15.out.size; omega)) ?_
        rintro e W16 ⟨vc16, rfl, oc16, hc16⟩
        have HC16 : Hid (Chg 0 0 w7 W16) := HC15.out.trans hc16
        rw [HTwo.out.1] at oc16
        obtain ⟨x1_16, x3_16, x4_16, x6_16, rfl⟩ := ownD_len oc16
        have HV16 : Hid (DView W16 W15.heap.size W16.heap.size (.agg #[.slice x1_16 dD.dur.length x3_16, .slice x4_16 dD.pend.length x6_16]) dD) := oc16.view HFit.out
        refine ⟨_, rfl, ⟨hc16.cell HS15.out.1 (by omega), hc16.cell HS15.out.2 (by omega)⟩, ?_⟩
        have HS16 : Hid (W16.cell? ⟨w1.heap.size, 0, none⟩ = some (.slice dao d.dur.length dcap) ∧ W16.cell? ⟨w1.heap.size, 1, none⟩ = some (.slice pao d.pend.length pcap)) := ⟨hc16.cell HS15.out.1 (by omega), hc16.cell HS15.out.2 (by omega)⟩
        have HB16 : Hid (W16.heap[w7d.heap.size]? = some (.cells #[.slice none 0 0, .slice none 0 0] 29 (0, 0))) := (hc16.block _ (Array.getElem?_eq_some_iff.1 HB15.out).1 (by omega)).trans HB15.out
        have hsz16 := hc16.size
        clear oc16 hc16
        go_simp
        refine held_one 11 rfl rfl (by kernel_rfl) ?_
        refine wp_store_row 29 (.tmp 11) (.tmp 72) rfl rfl w7d.heap.size rfl [.slice x1_16 dD.dur.length x3_16, .slice x4_16 dD.pend.length x6_16] [.slice none 0 0, .slice none 0 0] 29 rfl HB16.out rfl (by kernel_rfl) (by simp [Value.oneCell']) ?_
        intro W17 hb17 hc17
        have hq17 := HC16.out.size
        have hw17 : w7.heap.size ≤ w7d.heap.size := HC0.out.size
        have HC17 : Hid (Chg 0 0 w7 W17) := HC16.out.step hc17 (by omega)
        have HV17 : Hid (DView W17 W15.heap.size W16.heap.size (.agg #[.slice x1_16 dD.dur.length x3_16, .slice x4_16 dD.pend.length x6_16]) dD) := HV16.out.chg hc17 (by omega)
        have HB17 : Hid (W17.heap[w7d.heap.size]? = some (.cells #[.slice x1_16 dD.dur.length x3_16, .slice x4_16 dD.pend.length x6_16] 29 (0, 0))) := hb17
        refine ⟨⟨hc17.cell HS16.out.1 (by omega), hc17.cell HS16.out.2 (by omega)⟩, ?_⟩
        clear hb17 hc17
        refine held_done (by kernel_rfl) (NoPanic.normal ?_)
        go_wp2
        go_meet
        exact ⟨_, _, _, _, _, _, _, rfl, HB17.out, HV17.out, HC17.out⟩
    case rest =>
      obtain ⟨B11, a1, x1, a2, x2, lo2, hi2, rfl, hB11, hV11, hC11⟩ := hcut
      generalize wc = w8 at *
      have HB11 : Hid (w8.heap[B11]? = some (.cells #[.slice a1 dD.dur.length x1, .slice a2 dD.pend.length x2] 29 (0, 0))) := hB11
      have HV11 : Hid (DView w8 lo2 hi2 (.agg #[.slice a1 dD.dur.length x1, .slice a2 dD.pend.length x2]) dD) := hV11
      have HC8 : Hid (Chg 0 0 w7 w8) := hC11
      have HB5c : Hid (w8.heap[w1.heap.size]? = some (.cells #[.slice dao d.dur.length dcap, .slice pao d.pend.length pcap] 29 (0, 0))) := (hC11.block w1.heap.size (Array.getElem?_eq_some_iff.1 HB5'.out).1 (by omega)).trans HB5'.out
      have HB9c : Hid (w8.heap[w4.heap.size]? = some (.cells #[.slice p1 dD.dur.length p3, .slice p4 dD.pend.length p6] 29 (0, 0))) := (hC11.block w4.heap.size (Array.getElem?_eq_some_iff.1 HB9'.out).1 (by omega)).trans HB9'.out
      have HWc : Hid (DView w8 w3.heap.size w4.heap.size (.agg #[.slice p1 dD.dur.length p3, .slice p4 dD.pend.length p6]) dD) := HW7.out.chg hC11 (by omega)
      have HDc : Hid (DView w8 w.heap.size lo (.agg #[.slice dao d.dur.length dcap, .slice pao d.pend.length pcap]) d) := HD7.out.chg hC11 (by omega)
      have HOc : Hid (OView w8 lo w1.heap.size (.slice (some ⟨og, 0, none⟩) os.length ocap) os) := HOa.out.chg hC11 (by omega)
      have HOtc : Hid (OView w8 lo w1.heap.size (.slice (some ⟨og, 0, none⟩) r ocap) (os.take r)) := HOt.out.chg hC11 (by omega)
      have hs8 := hC11.size
      have hrc : ¬ ocap < r := by omega
      have hw18 : w1.heap.size ≤ w8.heap.size := by omega
      clear hB11 hV11 hC11 b0 b1 c0 c1 hnl hzb
      go_upto_region 12 with fail
      go_cut [91] (fun s91 wx => s91 = .bool false ∧ Chg 0 0 w8 wx)
      case first =>
        refine region_amid' 192 73 19 (diskG (.agg #[.slice p1 dD.dur.length p3, .slice p4 dD.pend.length p6]) (.agg #[.slice a1 dD.dur.length x1, .slice a2 dD.pend.length x2]) (.agg #[.slice dao d.dur.length dcap, .slice pao d.pend.length pcap]) (.slice (some ⟨og, 0, none⟩) os.length ocap) (.slice (some ⟨og, 0, none⟩) r ocap) r d (doD d (os.take r) (-1))) (by kernel_rfl) rfl (by kernel_rfl) rfl (by omega) ?step ?fin
        case step =>
          intro listed a w8 h i hi
          obtain ⟨_, o, ho, hall⟩ := mem_ready.1 hi
          have mono := diskG_mono (.agg #[.slice p1 dD.dur.length p3, .slice p4 dD.pend.length p6]) (.agg #[.slice a1 dD.dur.length x1, .slice a2 dD.pend.length x2]) (.agg #[.slice dao d.dur.length dcap, .slice pao d.pend.length pcap]) (.slice (some ⟨og, 0, none⟩) os.length ocap) (.slice (some ⟨og, 0, none⟩) r ocap) r d (doD d (os.take r) (-1))
          have hi19 : i < 19 := (Array.getElem?_eq_some_iff.1 ho).1
          have e5 : a.tmps.getD 5 undef = .pointer (some ⟨w1.heap.size, 0, none⟩) := h.init 5 (by omega)
          have e6 : a.tmps.getD 6 undef = .slice (some ⟨og, 0, none⟩) os.length ocap := h.init 6 (by omega)
          have e8 : a.tmps.getD 8 undef = .int .i64 r := h.init 8 (by omega)
          have e9 : a.tmps.getD 9 undef = .pointer (some ⟨w4.heap.size, 0, none⟩) := h.init 9 (by omega)
          have e11 : a.tmps.getD 11 undef = .pointer (some ⟨B11, 0, none⟩) := h.init 11 (by omega)
          have CR : Chg 0 0 w8 w8 := Chg.refl 0 0 w8
          obtain ⟨c50, c51, _, _⟩ := two_cells ((h.chg.block w1.heap.size (Array.getElem?_eq_some_iff.1 HB5c.out).1 (by omega)).trans HB5c.out)
          obtain ⟨c90, c91, _, _⟩ := two_cells ((h.chg.block w4.heap.size (Array.getElem?_eq_some_iff.1 HB9c.out).1 (by omega)).trans HB9c.out)
          obtain ⟨cb0, cb1, _, _⟩ := two_cells ((h.chg.block B11 (Array.getElem?_eq_some_iff.1 HB11.out).1 (by omega)).trans HB11.out)
          have s8 := h.chg.size
          rcases i with _ | _ | _ | _ | _ | _ | _ | _ | _ | _ | _ | _ | _ | _ | _ | _ | _ | _ | _ | i
          · obtain rfl := Option.some.inj (ho.symm.trans rfl)
            refine h.op mono (by omega) (by omega) rfl rfl rfl (wp_value (v := .agg #[.slice p1 dD.dur.length p3, .slice p4 dD.pend.length p6]) (w' := w8) ?_ ⟨_, rfl, CR, rfl⟩)
            simp only [execOp, Act.eval]
            go_simp
          · obtain rfl := Option.some.inj (ho.symm.trans rfl)
            refine h.op mono (by omega) (by omega) rfl rfl rfl (wp_value (v := .agg #[.slice a1 dD.dur.length x1, .slice a2 dD.pend.length x2]) (w' := w8) ?_ ⟨_, rfl, CR, rfl⟩)
            simp only [execOp, Act.eval]
            go_simp
          · obtain rfl := Option.some.inj (ho.symm.trans rfl)
            have g0 : a.tmps.getD 73 undef = .agg #[.slice p1 dD.dur.length p3, .slice p4 dD.pend.length p6] := h.got 0 (by omega) (dep_of hall 0 rfl)
            have g1 : a.tmps.getD 74 undef = .agg #[.slice a1 dD.dur.length x1, .slice a2 dD.pend.length x2] := h.got 1 (by omega) (dep_of hall 1 rfl)
            refine h.op mono (by omega) (by omega) rfl rfl rfl (wp_call 34 #[.agg #[.slice p1 dD.dur.length p3, .slice p4 dD.pend.length p6], .agg #[.slice a1 dD.dur.length x1, .slice a2 dD.pend.length x2]] (by simp only [execOp, Act.eval]; go_simp) (lwSameDisk_calls w8 (HWc.out.chg h.chg (by omega)) (HV11.out.chg h.chg (by omega))) ?_)
            rintro e w9 ⟨rfl, c9⟩
            exact ⟨_, rfl, _, rfl, c9, rfl⟩
          · obtain rfl := Option.some.inj (ho.symm.trans rfl)
            have g2 : a.tmps.getD 75 undef = .bool true := h.got 2 (by omega) (dep_of hall 2 rfl)
            refine h.op mono (by omega) (by omega) rfl rfl rfl (wp_value (v := .bool false) (w' := w8) ?_ ⟨_, rfl, CR, rfl⟩)
            simp only [execOp, Act.eval]
            go_simp
          · obtain rfl := Option.some.inj (ho.symm.trans rfl)
            have g3 : a.tmps.getD 76 undef = .bool false := h.got 3 (by omega) (dep_of hall 3 rfl)
            exact h.op mono (by omega) (by omega) rfl rfl rfl (wp_value (v := a.tmps.getD 76 undef) rfl ⟨_, rfl, CR, g3⟩)
          · obtain rfl := Option.some.inj (ho.symm.trans rfl)
            have g4 : a.tmps.getD 77 undef = .bool false := h.got 4 (by omega) (dep_of hall 4 rfl)
            have hw := h.at (s := 77) (by omega)
            rw [g4] at hw
            refine h.op mono (by omega) (by omega) rfl rfl (wanted_of (j := 4) (d := 77) rfl rfl hw) (wp_value (v := .agg #[.slice dao d.dur.length dcap, .slice pao d.pend.length pcap]) (w' := w8) ?_ ⟨_, rfl, CR, rfl⟩)
            simp only [execOp, Act.eval]
            go_simp
          · obtain rfl := Option.some.inj (ho.symm.trans rfl)
            have g4 : a.tmps.getD 77 undef = .bool false := h.got 4 (by omega) (dep_of hall 4 rfl)
            have hw := h.at (s := 77) (by omega)
            rw [g4] at hw
            have g5 : a.tmps.getD 78 undef = .agg #[.slice dao d.dur.length dcap, .slice pao d.pend.length pcap] := h.got 5 (by omega) (dep_of hall 5 rfl)
            refine h.op mono (by omega) (by omega) rfl rfl (wanted_of (j := 4) (d := 77) rfl rfl hw) (wp_call 32 #[.agg #[.slice dao d.dur.length dcap, .slice pao d.pend.length pcap]] (by simp only [execOp, Act.eval]; go_simp) (lwCopyDisk_calls w8 (HDc.out.chg h.chg (by omega)) (by have := HS.out.1; omega) (by have := HS.out.2.1; omega) (fun i hi => by have := HS.out.2.2 i hi; omega)) ?_)
            rintro e w9 ⟨v9, rfl, o9, c9⟩
            exact ⟨_, rfl, _, rfl, c9, _, _, o9.view HS.out.fit⟩
          · obtain rfl := Option.some.inj (ho.symm.trans rfl)
            have g4 : a.tmps.getD 77 undef = .bool false := h.got 4 (by omega) (dep_of hall 4 rfl)
            have hw := h.at (s := 77) (by omega)
            rw [g4] at hw
            exact h.op mono (by omega) (by omega) rfl rfl (wanted_of (j := 4) (d := 77) rfl rfl hw) (wp_value (v := a.tmps.getD 6 undef) rfl ⟨_, rfl, CR, e6⟩)
          · obtain rfl := Option.some.inj (ho.symm.trans rfl)
            have g4 : a.tmps.getD 77 undef = .bool false := h.got 4 (by omega) (dep_of hall 4 rfl)
            have hw := h.at (s := 77) (by omega)
            rw [g4] at hw
            exact h.op mono (by omega) (by omega) rfl rfl (wanted_of (j := 4) (d := 77) rfl rfl hw) (wp_value (v := a.tmps.getD 8 undef) rfl ⟨_, rfl, CR, e8⟩)
          · obtain rfl := Option.some.inj (ho.symm.trans rfl)
            have g4 : a.tmps.getD 77 undef = .bool false := h.got 4 (by omega) (dep_of hall 4 rfl)
            have hw := h.at (s := 77) (by omega)
            rw [g4] at hw
            obtain ⟨lo6, hi6, g6⟩ : ∃ lo6 hi6, DView w8 lo6 hi6 (a.tmps.getD 79 undef) d := h.got 6 (by omega) (dep_of hall 6 rfl)
            have g7 : a.tmps.getD 80 undef = .slice (some ⟨og, 0, none⟩) os.length ocap := h.got 7 (by omega) (dep_of hall 7 rfl)
            have g8 : a.tmps.getD 81 undef = .int .i64 r := h.got 8 (by omega) (dep_of hall 8 rfl)
            refine h.op mono (by omega) (by omega) rfl rfl (wanted_of (j := 4) (d := 77) rfl rfl hw) (wp_call 31 #[a.tmps.getD 79 undef, .slice (some ⟨og, 0, none⟩) os.length ocap, .int .i64 r] (by simp only [execOp, Act.eval]; go_simp) (implDo_calls w8 (r : Int) g6 (HOc.out.chg h.chg (by omega)) (by omega)) ?_)
            rintro e w9 ⟨v9, rfl, o9, c9⟩
            rw [HTwo.out.2.1] at o9
            exact ⟨_, rfl, _, rfl, c9, _, _, o9.view (doD_fit _ _ _)⟩
          · obtain rfl := Option.some.inj (ho.symm.trans rfl)
            have g4 : a.tmps.getD 77 undef = .bool false := h.got 4 (by omega) (dep_of hall 4 rfl)
            have hw := h.at (s := 77) (by omega)
            rw [g4] at hw
            refine h.op mono (by omega) (by omega) rfl rfl (wanted_of (j := 4) (d := 77) rfl rfl hw) (wp_value (v := .agg #[.slice dao d.dur.length dcap, .slice pao d.pend.length pcap]) (w' := w8) ?_ ⟨_, rfl, CR, rfl⟩)
            simp only [execOp, Act.eval]
            go_simp
          · obtain rfl := Option.some.inj (ho.symm.trans rfl)
            have g4 : a.tmps.getD 77 undef = .bool false := h.got 4 (by omega) (dep_of hall 4 rfl)
            have hw := h.at (s := 77) (by omega)
            rw [g4] at hw
            have g5 : a.tmps.getD 83 undef = .agg #[.slice dao d.dur.length dcap, .slice pao d.pend.length pcap] := h.got 10 (by omega) (dep_of hall 10 rfl)
            refine h.op mono (by omega) (by omega) rfl rfl (wanted_of (j := 4) (d := 77) rfl rfl hw) (wp_call 32 #[.agg #[.slice dao d.dur.length dcap, .slice pao d.pend.length pcap]] (by simp only [execOp, Act.eval]; go_simp) (lwCopyDisk_calls w8 (HDc.out.chg h.chg (by omega)) (by have := HS.out.1; omega) (by have := HS.out.2.1; omega) (fun i hi => by have := HS.out.2.2 i hi; omega)) ?_)
            rintro e w9 ⟨v9, rfl, o9, c9⟩
            exact ⟨_, rfl, _, rfl, c9, _, _, o9.view HS.out.fit⟩
          · obtain rfl := Option.some.inj (ho.symm.trans rfl)
            have g4 : a.tmps.getD 77 undef = .bool false := h.got 4 (by omega) (dep_of hall 4 rfl)
            have hw := h.at (s := 77) (by omega)
            rw [g4] at hw
            exact h.op mono (by omega) (by omega) rfl rfl (wanted_of (j := 4) (d := 77) rfl rfl hw) (wp_value (v := a.tmps.getD 6 undef) rfl ⟨_, rfl, CR, e6⟩)
          · obtain rfl := Option.some.inj (ho.symm.trans rfl)
            have g4 : a.tmps.getD 77 undef = .bool false := h.got 4 (by omega) (dep_of hall 4 rfl)
            have hw := h.at (s := 77) (by omega)
            rw [g4] at hw
            exact h.op mono (by omega) (by omega) rfl rfl (wanted_of (j := 4) (d := 77) rfl rfl hw) (wp_value (v := a.tmps.getD 8 undef) rfl ⟨_, rfl, CR, e8⟩)
          · obtain rfl := Option.some.inj (ho.symm.trans rfl)
            have g4 : a.tmps.getD 77 undef = .bool false := h.got 4 (by omega) (dep_of hall 4 rfl)
            have hw := h.at (s := 77) (by omega)
            rw [g4] at hw
            have g12 : a.tmps.getD 85 undef = .slice (some ⟨og, 0, none⟩) os.length ocap := h.got 12 (by omega) (dep_of hall 12 rfl)
            have g13 : a.tmps.getD 86 undef = .int .i64 r := h.got 13 (by omega) (dep_of hall 13 rfl)
            refine h.op mono (by omega) (by omega) rfl rfl (wanted_of (j := 4) (d := 77) rfl rfl hw) (wp_value (v := .slice (some ⟨og, 0, none⟩) r ocap) (w' := w8) ?_ ⟨_, rfl, CR, rfl⟩)
            simp only [execOp, Act.eval]
            go_simp
          · obtain rfl := Option.some.inj (ho.symm.trans rfl)
            have g4 : a.tmps.getD 77 undef = .bool false := h.got 4 (by omega) (dep_of hall 4 rfl)
            have hw := h.at (s := 77) (by omega)
            rw [g4] at hw
            obtain ⟨lo6, hi6, g6⟩ : ∃ lo6 hi6, DView w8 lo6 hi6 (a.tmps.getD 84 undef) d := h.got 11 (by omega) (dep_of hall 11 rfl)
            have g7 : a.tmps.getD 87 undef = .slice (some ⟨og, 0, none⟩) r ocap := h.got 14 (by omega) (dep_of hall 14 rfl)
            refine h.op mono (by omega) (by omega) rfl rfl (wanted_of (j := 4) (d := 77) rfl rfl hw) (wp_call 31 #[a.tmps.getD 84 undef, .slice (some ⟨og, 0, none⟩) r ocap, .int .i64 (-1)] (by simp only [execOp, Act.eval]; go_simp) (implDo_calls w8 (-1) g6 (HOtc.out.chg h.chg (by omega)) (by omega)) ?_)
            rintro e w9 ⟨v9, rfl, o9, c9⟩
            exact ⟨_, rfl, _, rfl, c9, _, _, o9.view (doD_fit _ _ _)⟩
          · obtain rfl := Option.some.inj (ho.symm.trans rfl)
            have g4 : a.tmps.getD 77 undef = .bool false := h.got 4 (by omega) (dep_of hall 4 rfl)
            have hw := h.at (s := 77) (by omega)
            rw [g4] at hw
            obtain ⟨lo6, hi6, g6⟩ : ∃ lo6 hi6, DView w8 lo6 hi6 (a.tmps.getD 82 undef) (doD d (os.take r) (-1)) := h.got 9 (by omega) (dep_of hall 9 rfl)
            obtain ⟨lo7, hi7, g7⟩ : ∃ lo7 hi7, DView w8 lo7 hi7 (a.tmps.getD 88 undef) (doD d (os.take r) (-1)) := h.got 15 (by omega) (dep_of hall 15 rfl)
            refine h.op mono (by omega) (by omega) rfl rfl (wanted_of (j := 4) (d := 77) rfl rfl hw) (wp_call 34 #[a.tmps.getD 82 undef, a.tmps.getD 88 undef] (by simp only [execOp, Act.eval]; go_simp) (lwSameDisk_calls w8 g6 g7) ?_)
            rintro e w9 ⟨rfl, c9⟩
            exact ⟨_, rfl, _, rfl, c9, rfl⟩
          · obtain rfl := Option.some.inj (ho.symm.trans rfl)
            have g4 : a.tmps.getD 77 undef = .bool false := h.got 4 (by omega) (dep_of hall 4 rfl)
            have hw := h.at (s := 77) (by omega)
            rw [g4] at hw
            have g16 : a.tmps.getD 89 undef = .bool true := h.got 16 (by omega) (dep_of hall 16 rfl)
            refine h.op mono (by omega) (by omega) rfl rfl (wanted_of (j := 4) (d := 77) rfl rfl hw) (wp_value (v := .bool false) (w' := w8) ?_ ⟨_, rfl, CR, rfl⟩)
            simp only [execOp, Act.eval]
            go_simp
          · obtain rfl := Option.some.inj (ho.symm.trans rfl)
            have g4 : a.tmps.getD 77 undef = .bool false := h.got 4 (by omega) (dep_of hall 4 rfl)
            have g17 : a.tmps.getD 90 undef = .bool false := h.got 17 (by omega) (dep_of hall 17 rfl)
            refine h.op mono (by omega) (by omega) rfl rfl rfl (wp_value (v := .bool false) (w' := w8) ?_ ⟨_, rfl, CR, rfl⟩)
            simp only [execOp, Act.eval]
            go_simp
          · omega
        case fin =>
          intro vals w8 hlen hc8 hG
          obtain ⟨x0, x1', x2', x3, x4, x5, x6, x7, x8, x9, x10, x11, x12, x13, x14, x15, x16, x17, x18, rfl⟩ := len19 vals hlen
          have g18 : x18 = .bool false := hG 18 (by omega)
          subst g18
          clear hG hlen
          simp only [List.take_succ_cons, List.take_zero, List.drop_succ_cons, List.drop_zero, List.cons_append, List.nil_append]
          go_wp2_with fail
          go_meet
          exact ⟨rfl, hc8⟩
      case rest =>
        obtain ⟨rfl, hC9⟩ := hcut
        generalize wc = w9 at *
        have C9 := HC8.out.trans hC9
        have s9 := C9.size
        have HC9 : Hid (Chg 0 0 w w9) := HCw7.out.trans C9
        have HB9 : Hid (w9.heap[w4.heap.size]? = some (.cells #[.slice p1 dD.dur.length p3, .slice p4 dD.pend.length p6] 29 (0, 0))) := (hC9.block w4.heap.size (Array.getElem?_eq_some_iff.1 HB9c.out).1 (by omega)).trans HB9c.out
        have HBt : Hid (w9.heap[w6.heap.size]? = some (.cells #[.slice q1 dD.dur.length q3, .slice q4 dD.pend.length q6] 29 (0, 0))) := (C9.block w6.heap.size (Array.getElem?_eq_some_iff.1 HB10.out).1 (by omega)).trans HB10.out
        have HW9 : Hid (DView w9 w3.heap.size w4.heap.size (.agg #[.slice p1 dD.dur.length p3, .slice p4 dD.pend.length p6]) dD) := HWc.out.chg hC9 (by omega)
        have HT9 : Hid (DView w9 w5.heap.size w6.heap.size (.agg #[.slice q1 dD.dur.length q3, .slice q4 dD.pend.length q6]) dD) := HT7.out.chg C9 (by omega)
        have hk := lwKeep_calls w9 1 (by omega) HM.out (HV2.out.chg HC9.out (by omega)) hlb
        clear hC9 C9 HB11 HV11 HC8 HB5c HB9c HWc HDc HOc HOtc hrc hw18 HS HTwo HSo HOt HOd HOa HD7 HW7 HT7 HB5' HB9' HB10 HCw7 HdD
        go_wp2_with fail
        refine hk.mono ?_
        rintro e w10 ⟨kv, ks, rfl, hkl, ok, hc10⟩
        have s10 := hc10.size
        obtain ⟨c0, c1, _, _⟩ := two_cells ((hc10.block w4.heap.size (Array.getElem?_eq_some_iff.1 HB9.out).1 (by omega)).trans HB9.out)
        have HKl : Hid (ks.length = 40) := hkl
        have vk := ok.view (hi := w10.heap.size) (by omega) (fun g hg => (ok.lt g hg).2)
        have HK10 : Hid (View w10 w9.heap.size w10.heap.size .i64 kv ks) := vk
        obtain ⟨ko, kc, rfl, _, _, _⟩ := vk
        rw [hkl] at HK10 ⊢
        have hfw := HVal.out.fits
        have hN := lwCopyDisk_calls w10 (HW9.out.chg hc10 (by omega)) (by omega) (by omega) (fun i hi => by have := hfw.2.2 i hi; omega)
        clear hk ok hkl
        go_wp2_with fail
        refine hN.mono ?_
        rintro e w11 ⟨vc, rfl, oc, hc11⟩
        have s11 := hc11.size
        have hN := implCrash_calls w11 ks (oc.view HVal.out.fit) (HK10.out.chg hc11 (by omega)) (by omega)
        obtain ⟨k1, k2, k3, k4, k5, k6, rfl⟩ := oc.agg
        have C11 := hc10.trans hc11
        have C1011 : Chg 0 0 w10 w11 := hc11
        clear oc hc10 hc11 c0 c1
        go_wp2_with fail
        refine hN.mono ?_
        rintro e w12 ⟨vx, rfl, ox, hc12⟩
        obtain ⟨dc, hdc⟩ : ∃ dc, dc = crashD dD ks := ⟨_, rfl⟩
        rw [← hdc] at ox
        have hcl := crash_length HVal.out HKl.out
        have hcb := fun b => (blk_crash HVal.out HKl.out b).2
        rw [← hdc] at hcl hcb
        have HCb : Hid (∀ b, blk dc.dur b = sld (kp ks) dD.pend b (blk dD.dur b) (min dD.pend.length 40)) := hcb
        have hfc : dc.Fits := ⟨by rw [hcl.1]; omega, by rw [hcl.2]; simp, by rw [hcl.2]; intro i hi; simp at hi⟩
        have vx0 := ox.view hfc
        obtain ⟨e1, e3, e4, e6, rfl⟩ := ownD_len ox
        rw [hcl.1, hcl.2] at vx0
        rw [hcl.1, hcl.2]
        simp only [List.length_nil] at vx0 ⊢
        obtain ⟨ux, py, euv, vxd, _⟩ := vx0
        simp only [Value.agg.injEq, Array.mk.injEq, List.cons.injEq, and_true] at euv
        obtain ⟨rfl, rfl⟩ := euv
        have s12 := hc12.size
        have hdcl : dc.dur.length = dD.dur.length := hcl.1
        have CB : Chg 0 0 w12 (w12.alloc (.cells #[.slice e1 dD.dur.length e3, .slice e4 0 e6] 29)) := Chg.alloc (Chg.refl 0 0 w12) _
        have C13 := (C11.trans hc12).trans CB
        have s13 : (w12.alloc (.cells #[.slice e1 dD.dur.length e3, .slice e4 0 e6] 29)).heap.size = w12.heap.size + 1 := by simp
        have HC13 : Hid (Chg 0 0 w9 (w12.alloc (.cells #[.slice e1 dD.dur.length e3, .slice e4 0 e6] 29))) := C13
        have HB13 : Hid ((w12.alloc (.cells #[.slice e1 dD.dur.length e3, .slice e4 0 e6] 29)).heap[w12.heap.size]? = some (.cells #[.slice e1 dD.dur.length e3, .slice e4 0 e6] 29 (0, 0))) := heap_new _ _
        have HX13 : Hid (View (w12.alloc (.cells #[.slice e1 dD.dur.length e3, .slice e4 0 e6] 29)) w11.heap.size w12.heap.size .u8 (.slice e1 dD.dur.length e3) dc.dur) := vxd.chg CB (by omega)
        have HK13 : Hid (View (w12.alloc (.cells #[.slice e1 dD.dur.length e3, .slice e4 0 e6] 29)) w9.heap.size w10.heap.size .i64 (.slice ko 40 kc) ks) := HK10.out.chg ((C1011.trans hc12).trans CB) (by omega)
        obtain ⟨c0, c1, _, _⟩ := two_cells ((C13.block w4.heap.size (Array.getElem?_eq_some_iff.1 HB9.out).1 (by omega)).trans HB9.out)
        have hN := lwCopyDisk_calls (w12.alloc (.cells #[.slice e1 dD.dur.length e3, .slice e4 0 e6] 29)) (HW9.out.chg C13 (by omega)) (by omega) (by omega) (fun i hi => by have := hfw.2.2 i hi; omega)
        clear ox vxd C11 C1011 hc12 CB C13 hdc hcl hcb hfc HK10
        go_wp2_with fail
        generalize (w12.alloc (.cells #[.slice e1 dD.dur.length e3, .slice e4 0 e6] 29)) = w13 at *
        refine hN.mono ?_
        rintro e w14 ⟨vc, rfl, oc, hc14⟩
        have s14 := hc14.size
        have hN := implFlush_calls w14 (oc.view HVal.out.fit)
        obtain ⟨k1, k2, k3, k4, k5, k6, rfl⟩ := oc.agg
        clear oc c0 c1
        go_wp2_with fail
        refine hN.mono ?_
        rintro e w15 ⟨vf, rfl, of, hc15⟩
        have hfi := flush_image HVal.out
        have hff : (flushD dD).Fits := ⟨by rw [hfi.1, hfi.2.2]; omega, by rw [hfi.2.1]; simp, by rw [hfi.2.1]; intro i hi; simp at hi⟩
        have vf0 := of.view hff
        obtain ⟨f1, f3, f4, f6, rfl⟩ := ownD_len of
        rw [hfi.1, hfi.2.1, hfi.2.2] at vf0
        rw [hfi.1, hfi.2.1, hfi.2.2]
        simp only [List.length_nil] at vf0 ⊢
        obtain ⟨ux, py, euv, vfd, _⟩ := vf0
        simp only [Value.agg.injEq, Array.mk.injEq, List.cons.injEq, and_true] at euv
        obtain ⟨rfl, rfl⟩ := euv
        rw [hfi.1] at vfd
        have s15 := hc15.size
        have CB : Chg 0 0 w15 (w15.alloc (.cells #[.slice f1 dD.dur.length f3, .slice f4 0 f6] 29)) := Chg.alloc (Chg.refl 0 0 w15) _
        have C16 := (hc14.trans hc15).trans CB
        have s16 : (w15.alloc (.cells #[.slice f1 dD.dur.length f3, .slice f4 0 f6] 29)).heap.size = w15.heap.size + 1 := by simp
        have HB14 : Hid ((w15.alloc (.cells #[.slice f1 dD.dur.length f3, .slice f4 0 f6] 29)).heap[w15.heap.size]? = some (.cells #[.slice f1 dD.dur.length f3, .slice f4 0 f6] 29 (0, 0))) := heap_new _ _
        have HF16 : Hid (View (w15.alloc (.cells #[.slice f1 dD.dur.length f3, .slice f4 0 f6] 29)) w14.heap.size w15.heap.size .u8 (.slice f1 dD.dur.length f3) (imageD dD)) := vfd.chg CB (by omega)
        have HC16 : Hid (Chg 0 0 w13 (w15.alloc (.cells #[.slice f1 dD.dur.length f3, .slice f4 0 f6] 29))) := C16
        have C916 := HC13.out.trans C16
        obtain ⟨c0, c1, _, _⟩ := two_cells ((C916.block w4.heap.size (Array.getElem?_eq_some_iff.1 HB9.out).1 (by omega)).trans HB9.out)
        have hN := implImage_calls (w15.alloc (.cells #[.slice f1 dD.dur.length f3, .slice f4 0 f6] 29)) (HW9.out.chg C916 (by omega))
        have HIl : Hid ((imageD dD).length = dD.dur.length) := hfi.2.2
        clear of vfd hc14 hc15 CB C16 hfi hff
        go_wp2_with fail
        generalize w15.alloc (.cells #[.slice f1 dD.dur.length f3, .slice f4 0 f6] 29) = w16 at *
        refine hN.mono ?_
        rintro e w17 ⟨vi, rfl, oi, hc17⟩
        have s17 := hc17.size
        have hil := HIl.out
        have vi0 := oi.view (hi := w17.heap.size) (by omega) (fun g hg => (oi.lt g hg).2)
        obtain ⟨io, ic, rfl, _, _, _⟩ := vi0
        have vi0 := oi.view (hi := w17.heap.size) (by omega) (fun g hg => (oi.lt g hg).2)
        rw [hil] at vi0 ⊢
        have HI17 : Hid (View w17 w16.heap.size w17.heap.size .u8 (.slice io dD.dur.length ic) (imageD dD)) := vi0
        have C917 := C916.trans hc17
        have C1317 := HC16.out.trans hc17
        have HC17 : Hid (Chg 0 0 w w17) := HC9.out.trans C917
        have HB9e : Hid (w17.heap[w4.heap.size]? = some (.cells #[.slice p1 dD.dur.length p3, .slice p4 dD.pend.length p6] 29 (0, 0))) := (C917.block w4.heap.size (Array.getElem?_eq_some_iff.1 HB9.out).1 (by omega)).trans HB9.out
        have HBte : Hid (w17.heap[w6.heap.size]? = some (.cells #[.slice q1 dD.dur.length q3, .slice q4 dD.pend.length q6] 29 (0, 0))) := (C917.block w6.heap.size (Array.getElem?_eq_some_iff.1 HBt.out).1 (by omega)).trans HBt.out
        have HB13e : Hid (w17.heap[w12.heap.size]? = some (.cells #[.slice e1 dD.dur.length e3, .slice e4 0 e6] 29 (0, 0))) := (C1317.block w12.heap.size (Array.getElem?_eq_some_iff.1 HB13.out).1 (by omega)).trans HB13.out
        have HB14e : Hid (w17.heap[w15.heap.size]? = some (.cells #[.slice f1 dD.dur.length f3, .slice f4 0 f6] 29 (0, 0))) := (hc17.block w15.heap.size (Array.getElem?_eq_some_iff.1 HB14.out).1 (by omega)).trans HB14.out
        have HW17 : Hid (DView w17 w3.heap.size w4.heap.size (.agg #[.slice p1 dD.dur.length p3, .slice p4 dD.pend.length p6]) dD) := HW9.out.chg C917 (by omega)
        have HT17 : Hid (DView w17 w5.heap.size w6.heap.size (.agg #[.slice q1 dD.dur.length q3, .slice q4 dD.pend.length q6]) dD) := HT9.out.chg C917 (by omega)
        have HX17 : Hid (View w17 w11.heap.size w12.heap.size .u8 (.slice e1 dD.dur.length e3) dc.dur) := HX13.out.chg C1317 (by omega)
        have HK17 : Hid (View w17 w9.heap.size w10.heap.size .i64 (.slice ko 40 kc) ks) := HK13.out.chg C1317 (by omega)
        have HF17 : Hid (View w17 w14.heap.size w15.heap.size .u8 (.slice f1 dD.dur.length f3) (imageD dD)) := HF16.out.chg hc17 (by omega)
        have hN := lwSameBytes_calls w17 HF17.out HI17.out
        obtain ⟨x0, x1', _, _⟩ := two_cells HB13e.out
        obtain ⟨y0, y1, _, _⟩ := two_cells HB14e.out
        obtain ⟨z0, z1, _, _⟩ := two_cells HBte.out
        have hnl : ((dD.dur.length : Int) != dD.dur.length) = false := by simp
        clear oi vi0 c0 c1 C916 C917 C1317 hc17 HC13 HC16 HB13 HB14 HF16 HX13 HK13 HB9 HBt HW9 HT9 HC9
        go_wp2_with fail
        refine hN.mono ?_
        rintro e w18 ⟨rfl, rfl⟩
        obtain ⟨_, _, etv, htd, htp⟩ := HT17.out
        simp only [Value.agg.injEq, Array.mk.injEq, List.cons.injEq, and_true] at etv
        obtain ⟨rfl, rfl⟩ := etv
        have HTd : Hid (View w18 w5.heap.size w6.heap.size .u8 (.slice q1 dD.dur.length q3) dD.dur) := htd
        have HTp : Hid (PView w18 w5.heap.size w6.heap.size (.slice q4 dD.pend.length q6) dD.pend) := htp
        have Hdcl : Hid (dc.dur.length = dD.dur.length) := hdcl
        have hmod := HVal.out.1
        have Hmod : Hid (dD.dur.length % 64 = 0) := hmod
        obtain ⟨nB, hnB⟩ : ∃ nB, nB = dD.dur.length / 64 := ⟨_, rfl⟩
        have HnB : Hid (nB = dD.dur.length / 64) := hnB
        have hdivi : (dD.dur.length : Int) / 64 = (nB : Int) := by omega
        have hnBle : nB ≤ 2048 := by omega
        have hpl600 : dD.pend.length ≤ 600 := hfw.2.1
        have hlen9 : dD.dur.length ≤ 131072 := hfw.1
        clear htd htp hdcl hil hfw hmod hnB
        go_wp2
        clear x0 x1' y0 y1 z0 z1 hnl
        go_loopw [16] (fun i wr => ∃ b : Nat, b ≤ nB ∧ i = .int .i64 b ∧ Chg 0 0 w18 wr) (fun i _ => nB - (intOf i).toNat)
        case atStart => exact ⟨0, Nat.zero_le _, rfl, Chg.refl 0 0 _⟩
        case round =>
          obtain ⟨b, hb, rfl, hcr⟩ := hrel
          have HCr : Hid (Chg 0 0 w18 wr) := hcr
          obtain ⟨z0, z1, _, _⟩ := two_cells ((hcr.block w6.heap.size (Array.getElem?_eq_some_iff.1 HBte.out).1 (by omega)).trans HBte.out)
          by_cases hlt : b < nB
          · have hib : (b : Int) < (nB : Int) := by omega
            have hb64 : b * 64 + 64 ≤ dD.dur.length := by have := HnB.out; omega
            have Hb64 : Hid (b * 64 + 64 ≤ dD.dur.length) := hb64
            have hN := lwBlock_calls wr (HTd.out.chg hcr (by omega)) b hb64 (by omega)
            clear hcr hb64
            go_wp2_with fail
            refine hN.mono ?_
            rintro e w19 ⟨sv, rfl, hsv, hw⟩
            have HCs : Hid (Chg 0 0 w18 w19) := by rw [hw]; exact HCr.out
            have HSv : Hid (∃ lo3 hi3, View w19 lo3 hi3 .u8 sv (sld (kp ks) dD.pend b (blk dD.dur b) 0)) := ⟨_, _, by rw [hw]; exact hsv⟩
            clear hN hsv hw z0 z1 HCr
            go_wp2
            go_loopw [17, 18] (fun s i wr => ∃ k : Nat, k ≤ min dD.pend.length 40 ∧ i = .int .i64 k ∧ Chg 0 0 w18 wr ∧ ∃ lo3 hi3, View wr lo3 hi3 .u8 s (sld (kp ks) dD.pend b (blk dD.dur b) k)) (fun _ i _ => min dD.pend.length 40 - (intOf i).toNat)
            case atStart => exact ⟨0, Nat.zero_le _, rfl, HCs.out, HSv.out⟩
            case round =>
              obtain ⟨k, hk, rfl, hcr, lo3, hi3, hs⟩ := hrel
              clear HCs HSv
              have HCr : Hid (Chg 0 0 w18 wr) := hcr
              obtain ⟨z0, z1, _, _⟩ := two_cells ((hcr.block w6.heap.size (Array.getElem?_eq_some_iff.1 HBte.out).1 (by omega)).trans HBte.out)
              have HSs : Hid (View wr lo3 hi3 .u8 u17 (sld (kp ks) dD.pend b (blk dD.dur b) k)) := hs
              clear hs
              by_cases hin : k < dD.pend.length ∧ k < 40
              · obtain ⟨hkm, hk40⟩ := hin
                have hkm' : (k : Int) < (dD.pend.length : Int) := by omega
                have hk40' : (k : Int) < 40 := by omega
                have hp := HTp.out.chg hcr (show w6.heap.size ≤ 0 ∨ 0 ≤ w5.heap.size ∨ 0 ≤ 0 by omega)
                obtain ⟨_, _, epv, _, hpc, hcell⟩ := hp
                cases epv
                obtain ⟨pb, poff, rfl, hc⟩ : ∃ pb poff, q4 = some ⟨pb, poff, none⟩ ∧ ∀ i, i < dD.pend.length → ∃ dv, wr.cell? ⟨pb, poff + i * 2, none⟩ = some (.int .i64 (dD.pend.getD i (0, [])).1) ∧ wr.cell? ⟨pb, poff + i * 2 + 1, none⟩ = some dv ∧ View wr w5.heap.size w6.heap.size .u8 dv (dD.pend.getD i (0, [])).2 := by
                  rcases hcell with h0 | ⟨pb, poff, e, _, _, h⟩
                  · rw [h0] at hkm; simp at hkm
                  · exact ⟨pb, poff, e, h⟩
                obtain ⟨pd, cq, cd, vd⟩ := hc k hkm
                have hkv := HK17.out.chg hcr (show w10.heap.size ≤ 0 ∨ 0 ≤ w9.heap.size ∨ 0 ≤ 0 by omega)
                obtain ⟨_, _, ekv, _, ⟨hkc, _⟩, hkcell⟩ := hkv
                simp only [Value.slice.injEq] at ekv
                obtain ⟨rfl, _, rfl⟩ := ekv
                obtain ⟨kb, koff, rfl, hkc'⟩ : ∃ kb koff, ko = some ⟨kb, koff, none⟩ ∧ ∀ i, i < ks.length → wr.cell? ⟨kb, koff + i, none⟩ = some (.int .i64 (ks.getD i 0)) := by
                  rcases hkcell with h0 | ⟨kb, koff, e, _, _, h⟩
                  · have := HKl.out; rw [h0] at this; simp at this
                  · exact ⟨kb, koff, e, h⟩
                have ck := hkc' k (by rw [HKl.out]; omega)
                have VD : Hid (View wr w5.heap.size w6.heap.size .u8 pd (dD.pend.getD k (0, [])).2) := vd
                obtain ⟨vo, vcap, hpd, _, _, _⟩ := vd
                have HR : Hid (sld (kp ks) dD.pend b (blk dD.dur b) (k + 1) = if (dD.pend.getD k (0, [])).1 = (b : Int) ∧ ks.getD k 0 ≠ 0 then (dD.pend.getD k (0, [])).2 else sld (kp ks) dD.pend b (blk dD.dur b) k) := by
                  show (if (dD.pend.getD k (0, [])).1 = (b : Int) ∧ kp ks k = true then (dD.pend.getD k (0, [])).2 else sld (kp ks) dD.pend b (blk dD.dur b) k) = _
                  have : (kp ks k = true) ↔ ks.getD k 0 ≠ 0 := by unfold kp; rw [HKl.out, decide_eq_true hk40]; simp
                  simp only [this]
                generalize (dD.pend.getD k (0, [])).1 = q at *
                generalize ks.getD k 0 = x at *
                generalize (dD.pend.getD k (0, [])).2 = ys at *
                subst hpd
                have hkc40 : 40 ≤ kc := by rw [HKl.out] at hkc; exact hkc
                clear hc hcell hkcell hkc' hcr hkc
                by_cases hq : q = (b : Int)
                · have hqb : (q == (b : Int)) = true := by rw [hq]; simp
                  by_cases hx : x = 0
                  · have hxb : (x != 0) = false := by rw [hx]; rfl
                    have HR2 : Hid (sld (kp ks) dD.pend b (blk dD.dur b) (k + 1) = sld (kp ks) dD.pend b (blk dD.dur b) k) := HR.out.trans (if_neg (fun h => h.2 hx))
                    clear hq hx HR
                    go_wp2
                    go_roundw
                    case rel => exact ⟨k + 1, by omega, by go_num, HCr.out, _, _, by rw [HR2.out]; exact HSs.out⟩
                    case measure => simp [intOf]; omega
                  · have hxb : (x != 0) = true := by simpa using hx
                    have HR2 : Hid (sld (kp ks) dD.pend b (blk dD.dur b) (k + 1) = ys) := HR.out.trans (if_pos ⟨hq, hx⟩)
                    clear hq hx HR
                    go_wp2
                    go_roundw
                    case rel => exact ⟨k + 1, by omega, by go_num, HCr.out, _, _, by rw [HR2.out]; exact VD.out⟩
                    case measure => simp [intOf]; omega
                · have hqb : (q == (b : Int)) = false := by simpa using hq
                  have HR2 : Hid (sld (kp ks) dD.pend b (blk dD.dur b) (k + 1) = sld (kp ks) dD.pend b (blk dD.dur b) k) := HR.out.trans (if_neg (fun h => hq h.1))
                  clear hq HR
                  go_wp2
                  go_roundw
                  case rel => exact ⟨k + 1, by omega, by go_num, HCr.out, _, _, by rw [HR2.out]; exact HSs.out⟩
                  case measure => simp [intOf]; omega
              · have hke : k = min dD.pend.length 40 := by omega
                have HE : Hid (View wr lo3 hi3 .u8 u17 (blk dc.dur b)) := by
                  show View wr lo3 hi3 .u8 u17 (blk dc.dur b)
                  rw [HCb.out b, ← hke]; exact HSs.out
                obtain ⟨x0, x1', _, _⟩ := two_cells ((hcr.block w12.heap.size (Array.getElem?_eq_some_iff.1 HB13e.out).1 (by omega)).trans HB13e.out)
                obtain ⟨y0, y1, _, _⟩ := two_cells ((hcr.block w4.heap.size (Array.getElem?_eq_some_iff.1 HB9e.out).1 (by omega)).trans HB9e.out)
                have hcs : (¬ (k : Int) < (dD.pend.length : Int)) ∨ ((k : Int) < (dD.pend.length : Int) ∧ ¬ (k : Int) < 40) := by omega
                have hN1 := lwBlock_calls wr (HX17.out.chg hcr (by omega)) b (by rw [Hdcl.out]; exact Hb64.out) (by rw [Hdcl.out]; omega)
                have hN2 := fun (bv : Value) (lo5 hi5 : Nat) (hbv : View wr lo5 hi5 .u8 bv (blk dc.dur b)) => lwSameBytes_calls wr hbv HE.out
                have hN3 := implRead_calls wr (b : Int) (HW17.out.chg hcr (by omega))
                have hrd : readD dD (b : Int) = blk (imageD dD) b := blk_image HVal.out b (by have := HnB.out; omega)
                rw [hrd] at hN3
                have Hil := HIl.out
                have HI : Hid (∀ w', Chg 0 0 wr w' → Calls Try.prog 37 #[.slice io dD.dur.length ic, .int .i64 b] w' fun e w'' => ∃ v, e = .returned v ∧ View w' w16.heap.size w18.heap.size .u8 v (((imageD dD).drop (b * 64)).take 64) ∧ w'' = w') := fun w' hc' => lwBlock_calls w' ((HI17.out.chg (HCr.out.trans hc') (by omega))) b (by rw [HIl.out]; exact Hb64.out) (by rw [HIl.out]; omega)
                clear hin hke hcr HSs hrd Hil
                rcases hcs with h1 | ⟨h1, h2⟩
                all_goals
                  go_wp2_with fail
                  refine hN1.mono ?_
                  rintro e w20 ⟨bv, rfl, hbv, hw⟩
                  have hN2' := hN2 bv _ _ hbv
                  subst hw
                  obtain ⟨bvo, bvl, bvc, rfl⟩ := hbv.shape
                  clear hbv
                  go_wp2_with fail
                  refine hN2'.mono ?_
                  rintro e w21 ⟨rfl, hw⟩
                  subst hw
                  go_wp2_with fail
                  refine hN3.mono ?_
                  rintro e w22 ⟨rv, rfl, orv, hc22⟩
                  have hN4 := HI.out w22 hc22
                  have vrv := orv.view (hi := w22.heap.size) (by unfold blk; rw [List.length_take]; omega) (fun g hg => (orv.lt g hg).2)
                  have HC22 : Hid (Chg 0 0 w18 w22) := HCr.out.trans hc22
                  obtain ⟨rvo, rvl, rvc, rfl⟩ := row_slice orv
                  clear orv hc22
                  go_wp2_with fail
                  refine hN4.mono ?_
                  rintro e w23 ⟨iv, rfl, hiv, hw⟩
                  subst hw
                  have hN5 := lwSameBytes_calls _ vrv hiv
                  obtain ⟨ivo, ivl, ivc, rfl⟩ := hiv.shape
                  clear hiv
                  clear hN1 hN2 hN2' hN3 hN4 vrv
                  go_wp2_with fail
                  refine hN5.mono ?_
                  rintro e w24 ⟨rfl, hw⟩
                  subst hw
                  clear hN5
                  go_wp2
                  refine ⟨⟨b + 1, by omega, by go_num, HC22.out⟩, ?_⟩
                  simp [intOf]
                  omega
          · have hib : ¬ (b : Int) < (nB : Int) := by omega
            have HCe : Hid (Chg 0 0 w wr) := HC17.out.trans hcr
            clear hcr
            go_wp2
            go_ret
            exact ⟨rfl, HCe.out.below (by omega)⟩

end Go.Proofs.Ytplfehjaakkldaa

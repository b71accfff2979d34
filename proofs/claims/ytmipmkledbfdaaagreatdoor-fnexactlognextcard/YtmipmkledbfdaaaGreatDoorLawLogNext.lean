/- The law on LogNext; its row. (made by tools/mklawnext.py) -/
import Derived.Test.YtmipmkledbfdaaaGreatDoorOpenP
import Derived.Test.YtmipmkledbfdaaaGreatDoorLaidMag
import Derived.Test.YtmipmkledbfdaaaGreatDoorAs
import Derived.Deep.RegionWith
import Derived.Deep.DeepCutAuto
namespace Go.Proofs.YtmipmkledbfdaaaGreatDoor
open Go.ChangeShapes Go.WideShapes Go.ChangeAt Go.RowKit

/-- What lies in memory throughout. -/
def LwS (w : World) (sz st sq hd us s : Int) (hv rv : Value) (W : World) : Prop := W.heap[w.heap.size]? = some (logO 23 sz st sq hd us) ∧ W.heap[w.heap.size + 1]? = some (.cells #[.int .i64 s, hv, rv] 27 (0, 0)) ∧ Chg 0 0 w W
theorem LwS.keep {w : World} {sz st sq hd us s : Int} {hv rv : Value} {A B : World} (h : LwS w sz st sq hd us s hv rv A) (hc : Chg 0 0 A B) : LwS w sz st sq hd us s hv rv B :=
  ⟨(hc.block _ (Array.getElem?_eq_some_iff.1 h.1).1 (by omega)).trans h.1, (hc.block _ (Array.getElem?_eq_some_iff.1 h.2.1).1 (by omega)).trans h.2.1, h.2.2.trans hc⟩
theorem LwS.lt {w : World} {sz st sq hd us s : Int} {hv rv : Value} {A : World} (h : LwS w sz st sq hd us s hv rv A) : w.heap.size + 1 < A.heap.size := (Array.getElem?_eq_some_iff.1 h.2.1).1

set_option maxRecDepth 20000 in
set_option maxHeartbeats 8000000 in
theorem lawLogNext_walk (w : World) {a : Value} {t : Tx} (sz st sq hd us : Int) (hby : ∀ x ∈ t.homes, Byt x.2) (hM : Mag w) (h1 : TView w 0 w.heap.size a t) :
    Calls Tryz.prog 3 #[logV sz st sq hd us, a] w fun e w' => e = .returned (.bool true) ∧ Below w.heap.size w w' := by
  have T0 := h1
  have hMl := hM.lt
  have HBy : Hid (∀ x ∈ t.homes, Byt x.2) := hby
  have HMg : Hid (Mag w) := hM
  clear hby hM
  obtain ⟨hv, rv, rfl, p1, v1⟩ := h1
  obtain ⟨po, pcap, rfl⟩ := p1.slice
  obtain ⟨ao, cap, rfl⟩ := v1.slice
  have hmx : Tryz.prog.follows .mixedOrders = true := by kernel_rfl
  have HT : Hid (∀ W, Chg 0 0 w W → TView W 0 w.heap.size (.agg #[.int .i64 t.seq, .slice po t.homes.length pcap, .slice ao t.revs.length cap]) t) := fun W hW => T0.chg hW (by omega)
  have hA : Chg 0 0 w ((w.alloc (logO 23 sz st sq hd us)).alloc (.cells #[.int .i64 t.seq, .slice po t.homes.length pcap, .slice ao t.revs.length cap] 27)) := (Chg.alloc (Chg.refl 0 0 w) _).alloc _
  obtain ⟨z, b0, b1⟩ := alloc2 w (logO 23 sz st sq hd us) (.cells #[.int .i64 t.seq, .slice po t.homes.length pcap, .slice ao t.revs.length cap] 27)
  have hN := szTxn_calls ((w.alloc (logO 23 sz st sq hd us)).alloc (.cells #[.int .i64 t.seq, .slice po t.homes.length pcap, .slice ao t.revs.length cap] 27)) t 1048576 (by omega) (HT.out _ hA)
  clear T0 p1 v1
  go_enter Tryz.func3, Tryz.ntmps3
  go_wp2_with fail
  generalize (w.alloc (logO 23 sz st sq hd us)).alloc (.cells #[.int .i64 t.seq, .slice po t.homes.length pcap, .slice ao t.revs.length cap] 27) = w0 at *
  refine hN.mono ?_
  rintro e w1 ⟨rfl, h1⟩
  have HS1 : Hid (LwS w sz st sq hd us t.seq (.slice po t.homes.length pcap) (.slice ao t.revs.length cap) w1) := LwS.keep ⟨b0, b1, hA⟩ h1
  clear hN h1 b0 b1 hA
  by_cases hl : cntT t ≤ 1048576
  case neg =>
    rw [lft_neg hl]
    clear hl
    go_wp2
    go_ret
    exact ⟨rfl, HS1.out.2.2.below (by omega)⟩
  rw [lft_pos hl]
  have Hl : Hid (cntT t ≤ 1048576) := hl
  have hp : ¬ ((1048576 - cntT t : Nat) : Int) < 0 := by omega
  obtain ⟨ta, tb, tc, td, te, hNx⟩ := nextV_log sz st sq hd us t
  have HSN : Hid (∀ (W : World) (lo hi : Nat) (v : Value), hi ≤ W.heap.size → TView W lo hi v t → Calls Tryz.prog 5 #[logV sz st sq hd us, v] W fun e w' => e = .returned (logV ta tb tc td te) ∧ Chg 0 0 W w') := fun W lo hi v hh hv => by rw [← hNx]; exact specLogNext_calls W sz st sq hd us Hl.out hh HBy.out hv
  have HIN : Hid (∀ (W : World) (lo hi : Nat) (v : Value), Chg 0 0 w W → hi ≤ W.heap.size → TView W lo hi v t → Calls Tryz.prog 8 #[logV sz st sq hd us, v] W fun e w' => e = .returned (logV ta tb tc td te) ∧ Chg 0 0 W w') := fun W lo hi v hc hh hv => by rw [← hNx]; exact implLogNext_calls W sz st sq hd us Hl.out hh HBy.out (HMg.out.chg hc (by omega)) hv
  clear hl hNx HBy HMg hMl
  generalize 1048576 - cntT t = lf at *
  go_upto_region 5 with fail
  clear hp
  go_cut [6] (fun s6 wx => ∃ bx, s6 = .pointer (some ⟨bx, 0, none⟩) ∧ w.heap.size + 1 < bx ∧ wx.heap[bx]? = some (logO 29 ta tb tc td te) ∧ LwS w sz st sq hd us t.seq (.slice po t.homes.length pcap) (.slice ao t.revs.length cap) wx)
  case first =>
    go_wp2
    refine held_region (LwS w sz st sq hd us t.seq (.slice po t.homes.length pcap) (.slice ao t.revs.length cap)) hmx ?_
    have HS : Hid (LwS w sz st sq hd us t.seq (.slice po t.homes.length pcap) (.slice ao t.revs.length cap) w1.drew) := HS1.out.keep (Chg.drew (Chg.refl 0 0 w1))
    generalize w1.drew = wd at *
    refine held_take 0 (logV sz st sq hd us) rfl (by kernel_rfl) (by kernel_rfl) (by kernel_rfl) (fun _ _ _ h => h) (.inl ⟨by kernel_rfl, fun w' hw' => by obtain ⟨x0, x1, x2, x3, x4⟩ := five_cells hw'.1; go_simp⟩) HS.out ?_
    go_simp
    refine held_take 2 (.agg #[.int .i64 t.seq, .slice po t.homes.length pcap, .slice ao t.revs.length cap]) rfl (by kernel_rfl) (by kernel_rfl) (by kernel_rfl) (fun _ _ _ h => h) (.inl ⟨by kernel_rfl, fun w' hw' => by obtain ⟨⟨k0, k1, k2⟩, _⟩ := tri hw'.2.1; go_simp⟩) HS.out ?_
    go_simp
    refine held_two 1 5 rfl rfl rfl rfl (by kernel_rfl) ?_ ?_
    · skip
      refine wp_enter 6 #[logV sz st sq hd us] (by first | kernel_rfl | go_simp) (toLog_calls _ sz st sq hd us) ?_
      rintro e v5_1 ⟨rfl, cv5_1⟩
      have HSv5_1 : Hid (LwS w sz st sq hd us t.seq (.slice po t.homes.length pcap) (.slice ao t.revs.length cap) v5_1) := HS.out.keep cv5_1
      clear cv5_1
      refine ⟨_, rfl, HSv5_1.out, ?_⟩
      go_simp
      refine held_two 3 5 rfl rfl rfl rfl (by kernel_rfl) ?_ ?_
      · skip
        refine wp_enter 7 #[.agg #[.int .i64 t.seq, .slice po t.homes.length pcap, .slice ao t.revs.length cap]] (by first | kernel_rfl | go_simp) (toTxn_calls _ Hl.out (HT.out _ HSv5_1.out.2.2)) ?_
        rintro e v5_2 ⟨xv, rfl, tv, cv5_2⟩
        obtain ⟨xh, xr, rfl, xp, xw⟩ := id tv
        obtain ⟨xo, xcap, rfl⟩ := xp.slice
        obtain ⟨yo, ycap, rfl⟩ := xw.slice
        have HVv5_2 : Hid (∃ lo hi, hi ≤ v5_2.heap.size ∧ TView v5_2 lo hi (.agg #[.int .i64 t.seq, .slice xo t.homes.length xcap, .slice yo t.revs.length ycap]) t) := ⟨_, _, Nat.le_refl _, tv⟩
        clear tv xp xw
        have HSv5_2 : Hid (LwS w sz st sq hd us t.seq (.slice po t.homes.length pcap) (.slice ao t.revs.length cap) v5_2) := HSv5_1.out.keep cv5_2
        clear cv5_2
        refine ⟨_, rfl, HSv5_2.out, ?_⟩
        go_simp
        refine held_two 4 5 rfl rfl rfl rfl (by kernel_rfl) ?_ ?_
        · skip
          obtain ⟨lo2, hi2, hh2, tv2⟩ := HVv5_2.out
          refine wp_enter 5 #[logV sz st sq hd us, .agg #[.int .i64 t.seq, .slice xo t.homes.length xcap, .slice yo t.revs.length ycap]] (by first | kernel_rfl | go_simp) (HSN.out _ _ _ _ hh2 tv2) ?_
          rintro e v5_3 ⟨rfl, cv5_3⟩
          clear hh2 tv2
          have HSv5_3 : Hid (LwS w sz st sq hd us t.seq (.slice po t.homes.length pcap) (.slice ao t.revs.length cap) v5_3) := HSv5_2.out.keep cv5_3
          clear cv5_3
          refine ⟨_, rfl, HSv5_3.out, ?_⟩
          go_simp
          refine held_one 5 rfl rfl (by kernel_rfl) ?_
          have cv5_4 : Chg 0 0 v5_3 (v5_3.alloc (logO 29 0 0 0 0 0)) := Chg.alloc (Chg.refl 0 0 _) _
          have HSv5_4 : Hid (LwS w sz st sq hd us t.seq (.slice po t.homes.length pcap) (.slice ao t.revs.length cap) (v5_3.alloc (logO 29 0 0 0 0 0))) := HSv5_3.out.keep cv5_4
          have HBv5_4 : Hid ((v5_3.alloc (logO 29 0 0 0 0 0)).heap[v5_3.heap.size]? = some (logO 29 0 0 0 0 0)) := heap_new _ _
          have hbv5_4 := LwS.lt HSv5_3.out
          clear cv5_4
          go_simp
          refine ⟨HSv5_4.out, ?_⟩
          generalize v5_3.alloc (logO 29 0 0 0 0 0) = v5_4 at *
          refine held_one 6 rfl rfl (by kernel_rfl) ?_
          refine wp_store_row 29 (.tmp 6) (.tmp 18) rfl rfl (v5_3.heap.size) rfl [.int .i64 ta, .int .i64 tb, .int .i64 tc, .int .i64 td, .int .i64 te] [.int .i64 0, .int .i64 0, .int .i64 0, .int .i64 0, .int .i64 0] 29 rfl HBv5_4.out rfl (by kernel_rfl) (by simp [Value.oneCell']) ?_
          intro v5_5 hy cy
          have HL : LwS w sz st sq hd us t.seq (.slice po t.homes.length pcap) (.slice ao t.revs.length cap) v5_5 := ⟨(cy.block _ (Array.getElem?_eq_some_iff.1 HSv5_4.out.1).1 (by omega)).trans HSv5_4.out.1, (cy.block _ (Array.getElem?_eq_some_iff.1 HSv5_4.out.2.1).1 (by omega)).trans HSv5_4.out.2.1, HSv5_4.out.2.2.step cy (by omega)⟩
          refine ⟨HL, held_done (by kernel_rfl) (NoPanic.normal ?_)⟩
          have HR : Hid (w.heap.size + 1 < v5_3.heap.size ∧ v5_5.heap[v5_3.heap.size]? = some (logO 29 ta tb tc td te) ∧ LwS w sz st sq hd us t.seq (.slice po t.homes.length pcap) (.slice ao t.revs.length cap) v5_5) := ⟨by omega, hy, HL⟩
          clear HL hy cy
          go_wp2
          go_meet
          exact ⟨v5_3.heap.size, rfl, HR.out⟩
        · skip
          have cv5_6 : Chg 0 0 v5_2 (v5_2.alloc (logO 29 0 0 0 0 0)) := Chg.alloc (Chg.refl 0 0 _) _
          have HSv5_6 : Hid (LwS w sz st sq hd us t.seq (.slice po t.homes.length pcap) (.slice ao t.revs.length cap) (v5_2.alloc (logO 29 0 0 0 0 0))) := HSv5_2.out.keep cv5_6
          have HBv5_6 : Hid ((v5_2.alloc (logO 29 0 0 0 0 0)).heap[v5_2.heap.size]? = some (logO 29 0 0 0 0 0)) := heap_new _ _
          have hbv5_6 := LwS.lt HSv5_2.out
          have HVv5_6 : Hid (∃ lo hi, hi ≤ (v5_2.alloc (logO 29 0 0 0 0 0)).heap.size ∧ TView (v5_2.alloc (logO 29 0 0 0 0 0)) lo hi (.agg #[.int .i64 t.seq, .slice xo t.homes.length xcap, .slice yo t.revs.length ycap]) t) := by obtain ⟨l, h, h1, h2⟩ := HVv5_2.out; exact ⟨l, h, Nat.le_trans h1 cv5_6.size, h2.chg cv5_6 (by omega)⟩
          clear cv5_6
          go_simp
          refine ⟨HSv5_6.out, ?_⟩
          generalize v5_2.alloc (logO 29 0 0 0 0 0) = v5_6 at *
          refine held_one 4 rfl rfl (by kernel_rfl) ?_
          obtain ⟨lo2, hi2, hh2, tv2⟩ := HVv5_6.out
          refine wp_enter 5 #[logV sz st sq hd us, .agg #[.int .i64 t.seq, .slice xo t.homes.length xcap, .slice yo t.revs.length ycap]] (by first | kernel_rfl | go_simp) (HSN.out _ _ _ _ hh2 tv2) ?_
          rintro e v5_7 ⟨rfl, cv5_7⟩
          clear hh2 tv2
          have HSv5_7 : Hid (LwS w sz st sq hd us t.seq (.slice po t.homes.length pcap) (.slice ao t.revs.length cap) v5_7) := HSv5_6.out.keep cv5_7
          have HBv5_7 : Hid (v5_7.heap[v5_2.heap.size]? = some (logO 29 0 0 0 0 0)) := (cv5_7.block _ (Array.getElem?_eq_some_iff.1 HBv5_6.out).1 (by omega)).trans HBv5_6.out
          clear cv5_7
          refine ⟨_, rfl, HSv5_7.out, ?_⟩
          go_simp
          refine held_one 6 rfl rfl (by kernel_rfl) ?_
          refine wp_store_row 29 (.tmp 6) (.tmp 18) rfl rfl (v5_2.heap.size) rfl [.int .i64 ta, .int .i64 tb, .int .i64 tc, .int .i64 td, .int .i64 te] [.int .i64 0, .int .i64 0, .int .i64 0, .int .i64 0, .int .i64 0] 29 rfl HBv5_7.out rfl (by kernel_rfl) (by simp [Value.oneCell']) ?_
          intro v5_8 hy cy
          have HL : LwS w sz st sq hd us t.seq (.slice po t.homes.length pcap) (.slice ao t.revs.length cap) v5_8 := ⟨(cy.block _ (Array.getElem?_eq_some_iff.1 HSv5_7.out.1).1 (by omega)).trans HSv5_7.out.1, (cy.block _ (Array.getElem?_eq_some_iff.1 HSv5_7.out.2.1).1 (by omega)).trans HSv5_7.out.2.1, HSv5_7.out.2.2.step cy (by omega)⟩
          refine ⟨HL, held_done (by kernel_rfl) (NoPanic.normal ?_)⟩
          have HR : Hid (w.heap.size + 1 < v5_2.heap.size ∧ v5_8.heap[v5_2.heap.size]? = some (logO 29 ta tb tc td te) ∧ LwS w sz st sq hd us t.seq (.slice po t.homes.length pcap) (.slice ao t.revs.length cap) v5_8) := ⟨by omega, hy, HL⟩
          clear HL hy cy
          go_wp2
          go_meet
          exact ⟨v5_2.heap.size, rfl, HR.out⟩
      · skip
        have cv5_9 : Chg 0 0 v5_1 (v5_1.alloc (logO 29 0 0 0 0 0)) := Chg.alloc (Chg.refl 0 0 _) _
        have HSv5_9 : Hid (LwS w sz st sq hd us t.seq (.slice po t.homes.length pcap) (.slice ao t.revs.length cap) (v5_1.alloc (logO 29 0 0 0 0 0))) := HSv5_1.out.keep cv5_9
        have HBv5_9 : Hid ((v5_1.alloc (logO 29 0 0 0 0 0)).heap[v5_1.heap.size]? = some (logO 29 0 0 0 0 0)) := heap_new _ _
        have hbv5_9 := LwS.lt HSv5_1.out
        clear cv5_9
        go_simp
        refine ⟨HSv5_9.out, ?_⟩
        generalize v5_1.alloc (logO 29 0 0 0 0 0) = v5_9 at *
        refine held_one 3 rfl rfl (by kernel_rfl) ?_
        refine wp_enter 7 #[.agg #[.int .i64 t.seq, .slice po t.homes.length pcap, .slice ao t.revs.length cap]] (by first | kernel_rfl | go_simp) (toTxn_calls _ Hl.out (HT.out _ HSv5_9.out.2.2)) ?_
        rintro e v5_10 ⟨xv, rfl, tv, cv5_10⟩
        obtain ⟨xh, xr, rfl, xp, xw⟩ := id tv
        obtain ⟨xo, xcap, rfl⟩ := xp.slice
        obtain ⟨yo, ycap, rfl⟩ := xw.slice
        have HVv5_10 : Hid (∃ lo hi, hi ≤ v5_10.heap.size ∧ TView v5_10 lo hi (.agg #[.int .i64 t.seq, .slice xo t.homes.length xcap, .slice yo t.revs.length ycap]) t) := ⟨_, _, Nat.le_refl _, tv⟩
        clear tv xp xw
        have HSv5_10 : Hid (LwS w sz st sq hd us t.seq (.slice po t.homes.length pcap) (.slice ao t.revs.length cap) v5_10) := HSv5_9.out.keep cv5_10
        have HBv5_10 : Hid (v5_10.heap[v5_1.heap.size]? = some (logO 29 0 0 0 0 0)) := (cv5_10.block _ (Array.getElem?_eq_some_iff.1 HBv5_9.out).1 (by omega)).trans HBv5_9.out
        clear cv5_10
        refine ⟨_, rfl, HSv5_10.out, ?_⟩
        go_simp
        refine held_one 4 rfl rfl (by kernel_rfl) ?_
        obtain ⟨lo2, hi2, hh2, tv2⟩ := HVv5_10.out
        refine wp_enter 5 #[logV sz st sq hd us, .agg #[.int .i64 t.seq, .slice xo t.homes.length xcap, .slice yo t.revs.length ycap]] (by first | kernel_rfl | go_simp) (HSN.out _ _ _ _ hh2 tv2) ?_
        rintro e v5_11 ⟨rfl, cv5_11⟩
        clear hh2 tv2
        have HSv5_11 : Hid (LwS w sz st sq hd us t.seq (.slice po t.homes.length pcap) (.slice ao t.revs.length cap) v5_11) := HSv5_10.out.keep cv5_11
        have HBv5_11 : Hid (v5_11.heap[v5_1.heap.size]? = some (logO 29 0 0 0 0 0)) := (cv5_11.block _ (Array.getElem?_eq_some_iff.1 HBv5_10.out).1 (by omega)).trans HBv5_10.out
        clear cv5_11
        refine ⟨_, rfl, HSv5_11.out, ?_⟩
        go_simp
        refine held_one 6 rfl rfl (by kernel_rfl) ?_
        refine wp_store_row 29 (.tmp 6) (.tmp 18) rfl rfl (v5_1.heap.size) rfl [.int .i64 ta, .int .i64 tb, .int .i64 tc, .int .i64 td, .int .i64 te] [.int .i64 0, .int .i64 0, .int .i64 0, .int .i64 0, .int .i64 0] 29 rfl HBv5_11.out rfl (by kernel_rfl) (by simp [Value.oneCell']) ?_
        intro v5_12 hy cy
        have HL : LwS w sz st sq hd us t.seq (.slice po t.homes.length pcap) (.slice ao t.revs.length cap) v5_12 := ⟨(cy.block _ (Array.getElem?_eq_some_iff.1 HSv5_11.out.1).1 (by omega)).trans HSv5_11.out.1, (cy.block _ (Array.getElem?_eq_some_iff.1 HSv5_11.out.2.1).1 (by omega)).trans HSv5_11.out.2.1, HSv5_11.out.2.2.step cy (by omega)⟩
        refine ⟨HL, held_done (by kernel_rfl) (NoPanic.normal ?_)⟩
        have HR : Hid (w.heap.size + 1 < v5_1.heap.size ∧ v5_12.heap[v5_1.heap.size]? = some (logO 29 ta tb tc td te) ∧ LwS w sz st sq hd us t.seq (.slice po t.homes.length pcap) (.slice ao t.revs.length cap) v5_12) := ⟨by omega, hy, HL⟩
        clear HL hy cy
        go_wp2
        go_meet
        exact ⟨v5_1.heap.size, rfl, HR.out⟩
    · skip
      have cv5_13 : Chg 0 0 wd (wd.alloc (logO 29 0 0 0 0 0)) := Chg.alloc (Chg.refl 0 0 _) _
      have HSv5_13 : Hid (LwS w sz st sq hd us t.seq (.slice po t.homes.length pcap) (.slice ao t.revs.length cap) (wd.alloc (logO 29 0 0 0 0 0))) := HS.out.keep cv5_13
      have HBv5_13 : Hid ((wd.alloc (logO 29 0 0 0 0 0)).heap[wd.heap.size]? = some (logO 29 0 0 0 0 0)) := heap_new _ _
      have hbv5_13 := LwS.lt HS.out
      clear cv5_13
      go_simp
      refine ⟨HSv5_13.out, ?_⟩
      generalize wd.alloc (logO 29 0 0 0 0 0) = v5_13 at *
      refine held_one 1 rfl rfl (by kernel_rfl) ?_
      refine wp_enter 6 #[logV sz st sq hd us] (by first | kernel_rfl | go_simp) (toLog_calls _ sz st sq hd us) ?_
      rintro e v5_14 ⟨rfl, cv5_14⟩
      have HSv5_14 : Hid (LwS w sz st sq hd us t.seq (.slice po t.homes.length pcap) (.slice ao t.revs.length cap) v5_14) := HSv5_13.out.keep cv5_14
      have HBv5_14 : Hid (v5_14.heap[wd.heap.size]? = some (logO 29 0 0 0 0 0)) := (cv5_14.block _ (Array.getElem?_eq_some_iff.1 HBv5_13.out).1 (by omega)).trans HBv5_13.out
      clear cv5_14
      refine ⟨_, rfl, HSv5_14.out, ?_⟩
      go_simp
      refine held_one 3 rfl rfl (by kernel_rfl) ?_
      refine wp_enter 7 #[.agg #[.int .i64 t.seq, .slice po t.homes.length pcap, .slice ao t.revs.length cap]] (by first | kernel_rfl | go_simp) (toTxn_calls _ Hl.out (HT.out _ HSv5_14.out.2.2)) ?_
      rintro e v5_15 ⟨xv, rfl, tv, cv5_15⟩
      obtain ⟨xh, xr, rfl, xp, xw⟩ := id tv
      obtain ⟨xo, xcap, rfl⟩ := xp.slice
      obtain ⟨yo, ycap, rfl⟩ := xw.slice
      have HVv5_15 : Hid (∃ lo hi, hi ≤ v5_15.heap.size ∧ TView v5_15 lo hi (.agg #[.int .i64 t.seq, .slice xo t.homes.length xcap, .slice yo t.revs.length ycap]) t) := ⟨_, _, Nat.le_refl _, tv⟩
      clear tv xp xw
      have HSv5_15 : Hid (LwS w sz st sq hd us t.seq (.slice po t.homes.length pcap) (.slice ao t.revs.length cap) v5_15) := HSv5_14.out.keep cv5_15
      have HBv5_15 : Hid (v5_15.heap[wd.heap.size]? = some (logO 29 0 0 0 0 0)) := (cv5_15.block _ (Array.getElem?_eq_some_iff.1 HBv5_14.out).1 (by omega)).trans HBv5_14.out
      clear cv5_15
      refine ⟨_, rfl, HSv5_15.out, ?_⟩
      go_simp
      refine held_one 4 rfl rfl (by kernel_rfl) ?_
      obtain ⟨lo2, hi2, hh2, tv2⟩ := HVv5_15.out
      refine wp_enter 5 #[logV sz st sq hd us, .agg #[.int .i64 t.seq, .slice xo t.homes.length xcap, .slice yo t.revs.length ycap]] (by first | kernel_rfl | go_simp) (HSN.out _ _ _ _ hh2 tv2) ?_
      rintro e v5_16 ⟨rfl, cv5_16⟩
      clear hh2 tv2
      have HSv5_16 : Hid (LwS w sz st sq hd us t.seq (.slice po t.homes.length pcap) (.slice ao t.revs.length cap) v5_16) := HSv5_15.out.keep cv5_16
      have HBv5_16 : Hid (v5_16.heap[wd.heap.size]? = some (logO 29 0 0 0 0 0)) := (cv5_16.block _ (Array.getElem?_eq_some_iff.1 HBv5_15.out).1 (by omega)).trans HBv5_15.out
      clear cv5_16
      refine ⟨_, rfl, HSv5_16.out, ?_⟩
      go_simp
      refine held_one 6 rfl rfl (by kernel_rfl) ?_
      refine wp_store_row 29 (.tmp 6) (.tmp 18) rfl rfl (wd.heap.size) rfl [.int .i64 ta, .int .i64 tb, .int .i64 tc, .int .i64 td, .int .i64 te] [.int .i64 0, .int .i64 0, .int .i64 0, .int .i64 0, .int .i64 0] 29 rfl HBv5_16.out rfl (by kernel_rfl) (by simp [Value.oneCell']) ?_
      intro v5_17 hy cy
      have HL : LwS w sz st sq hd us t.seq (.slice po t.homes.length pcap) (.slice ao t.revs.length cap) v5_17 := ⟨(cy.block _ (Array.getElem?_eq_some_iff.1 HSv5_16.out.1).1 (by omega)).trans HSv5_16.out.1, (cy.block _ (Array.getElem?_eq_some_iff.1 HSv5_16.out.2.1).1 (by omega)).trans HSv5_16.out.2.1, HSv5_16.out.2.2.step cy (by omega)⟩
      refine ⟨HL, held_done (by kernel_rfl) (NoPanic.normal ?_)⟩
      have HR : Hid (w.heap.size + 1 < wd.heap.size ∧ v5_17.heap[wd.heap.size]? = some (logO 29 ta tb tc td te) ∧ LwS w sz st sq hd us t.seq (.slice po t.homes.length pcap) (.slice ao t.revs.length cap) v5_17) := ⟨by omega, hy, HL⟩
      clear HL hy cy
      go_wp2
      go_meet
      exact ⟨wd.heap.size, rfl, HR.out⟩
  case rest =>
    obtain ⟨b6, rfl, hb6, hB6, HSc⟩ := hcut
    have HS2 : Hid (LwS w sz st sq hd us t.seq (.slice po t.homes.length pcap) (.slice ao t.revs.length cap) wc) := HSc
    have HB6 : Hid (wc.heap[b6]? = some (logO 29 ta tb tc td te)) := hB6
    clear hB6 HSc
    obtain ⟨⟨k0, k1, k2⟩, _⟩ := tri HS2.out.2.1
    have hN := toTxn_calls wc Hl.out (HT.out _ HS2.out.2.2)
    go_wp2_with fail
    refine hN.mono ?_
    rintro e w4 ⟨xv, rfl, tv, h4⟩
    have s4 := h4.size
    have HS4 : Hid (LwS w sz st sq hd us t.seq (.slice po t.homes.length pcap) (.slice ao t.revs.length cap) w4) := HS2.out.keep h4
    have HB64 : Hid (w4.heap[b6]? = some (logO 29 ta tb tc td te)) := (h4.block _ (Array.getElem?_eq_some_iff.1 HB6.out).1 (by omega)).trans HB6.out
    obtain ⟨xh, xr, rfl, xp, xw⟩ := id tv
    obtain ⟨xo, xcap, rfl⟩ := xp.slice
    obtain ⟨yo, ycap, rfl⟩ := xw.slice
    have hl6 := (Array.getElem?_eq_some_iff.1 HB64.out).1
    have cB : Chg 0 0 w4 (w4.alloc (.cells #[.int .i64 t.seq, .slice xo t.homes.length xcap, .slice yo t.revs.length ycap] 34)) := Chg.alloc (Chg.refl 0 0 w4) _
    have HX : Hid ((w4.alloc (.cells #[.int .i64 t.seq, .slice xo t.homes.length xcap, .slice yo t.revs.length ycap] 34)).heap[w4.heap.size]? = some (.cells #[.int .i64 t.seq, .slice xo t.homes.length xcap, .slice yo t.revs.length ycap] 34 (0, 0))) := heap_new w4 _
    have HS5 : Hid (LwS w sz st sq hd us t.seq (.slice po t.homes.length pcap) (.slice ao t.revs.length cap) (w4.alloc (.cells #[.int .i64 t.seq, .slice xo t.homes.length xcap, .slice yo t.revs.length ycap] 34))) := HS4.out.keep cB
    have HB65 : Hid ((w4.alloc (.cells #[.int .i64 t.seq, .slice xo t.homes.length xcap, .slice yo t.revs.length ycap] 34)).heap[b6]? = some (logO 29 ta tb tc td te)) := (cB.block _ hl6 (by omega)).trans HB64.out
    have HTX : Hid (TView (w4.alloc (.cells #[.int .i64 t.seq, .slice xo t.homes.length xcap, .slice yo t.revs.length ycap] 34)) wc.heap.size w4.heap.size (.agg #[.int .i64 t.seq, .slice xo t.homes.length xcap, .slice yo t.revs.length ycap]) t) := tv.chg cB (by omega)
    have s5 : (w4.alloc (.cells #[.int .i64 t.seq, .slice xo t.homes.length xcap, .slice yo t.revs.length ycap] 34)).heap.size = w4.heap.size + 1 := by simp
    have HL4 : Hid (wc.heap.size ≤ w4.heap.size) := s4
    clear hN tv xp xw h4 k0 k1 k2 cB HS4 HB64 hl6 s4 HS2 HB6
    go_upto_region 7 with fail
    generalize w4.alloc (.cells #[.int .i64 t.seq, .slice xo t.homes.length xcap, .slice yo t.revs.length ycap] 34) = w5 at *
    obtain ⟨b7, Hb7⟩ : ∃ b7, Hid (b7 = w4.heap.size) := ⟨_, rfl⟩
    rw [← Hb7.out] at s5 HX HTX HL4 ⊢
    generalize hlo : wc.heap.size = lx at *
    clear Hb7 hlo
    go_cut [8] (fun s8 wx => ∃ b8, s8 = .pointer (some ⟨b8, 0, none⟩) ∧ wx.heap[b8]? = some (logO 29 ta tb tc td te) ∧ Chg 0 0 w5 wx)
    case first =>
      go_wp2
      refine held_region (fun W => Chg 0 0 w5 W) hmx ?_
      have HS : Hid (Chg 0 0 w5 w5.drew) := Chg.drew (Chg.refl 0 0 w5)
      generalize w5.drew = wd at *
      refine held_take 0 (logV sz st sq hd us) rfl (by kernel_rfl) (by kernel_rfl) (by kernel_rfl) (fun _ _ _ h => h) (.inl ⟨by kernel_rfl, fun w' hw' => by obtain ⟨x0, x1, x2, x3, x4⟩ := five_cells (HS5.out.keep hw').1; go_simp⟩) HS.out ?_
      go_simp
      refine held_take 2 (.agg #[.int .i64 t.seq, .slice xo t.homes.length xcap, .slice yo t.revs.length ycap]) rfl (by kernel_rfl) (by kernel_rfl) (by kernel_rfl) (fun _ _ _ h => h) (.inl ⟨by kernel_rfl, fun w' hw' => by obtain ⟨⟨k0, k1, k2⟩, _⟩ := tri ((Chg.block hw' _ (by omega) (by omega)).trans HX.out); go_simp⟩) HS.out ?_
      go_simp
      refine held_two 1 4 rfl rfl rfl rfl (by kernel_rfl) ?_ ?_
      · skip
        refine wp_enter 6 #[logV sz st sq hd us] (by first | kernel_rfl | go_simp) (toLog_calls _ sz st sq hd us) ?_
        rintro e v7_1 ⟨rfl, cv7_1⟩
        have HSv7_1 : Hid (Chg 0 0 w5 v7_1) := HS.out.trans cv7_1
        clear cv7_1
        refine ⟨_, rfl, HSv7_1.out, ?_⟩
        go_simp
        refine held_two 3 4 rfl rfl rfl rfl (by kernel_rfl) ?_ ?_
        · skip
          refine wp_enter 8 #[logV sz st sq hd us, .agg #[.int .i64 t.seq, .slice xo t.homes.length xcap, .slice yo t.revs.length ycap]] (by first | kernel_rfl | go_simp) (HIN.out _ _ _ _ (HS5.out.2.2.trans HSv7_1.out) (by have := Chg.size (HSv7_1.out); omega) (HTX.out.chg HSv7_1.out (by omega))) ?_
          rintro e v7_2 ⟨rfl, cv7_2⟩
          have HSv7_2 : Hid (Chg 0 0 w5 v7_2) := HSv7_1.out.trans cv7_2
          clear cv7_2
          refine ⟨_, rfl, HSv7_2.out, ?_⟩
          go_simp
          refine held_one 4 rfl rfl (by kernel_rfl) ?_
          have HSz : Hid (w5.heap.size ≤ v7_2.heap.size) := Chg.size (HSv7_2.out)
          have cv7_3 : Chg 0 0 v7_2 (v7_2.alloc (logO 29 0 0 0 0 0)) := Chg.alloc (Chg.refl 0 0 _) _
          have HSv7_3 : Hid (Chg 0 0 w5 (v7_2.alloc (logO 29 0 0 0 0 0))) := HSv7_2.out.trans cv7_3
          have HBv7_3 : Hid ((v7_2.alloc (logO 29 0 0 0 0 0)).heap[v7_2.heap.size]? = some (logO 29 0 0 0 0 0)) := heap_new _ _
          clear cv7_3
          go_simp
          refine ⟨HSv7_3.out, ?_⟩
          generalize v7_2.alloc (logO 29 0 0 0 0 0) = v7_3 at *
          refine held_one 5 rfl rfl (by kernel_rfl) ?_
          refine wp_store_row 29 (.tmp 8) (.tmp 24) rfl rfl (v7_2.heap.size) rfl [.int .i64 ta, .int .i64 tb, .int .i64 tc, .int .i64 td, .int .i64 te] [.int .i64 0, .int .i64 0, .int .i64 0, .int .i64 0, .int .i64 0] 29 rfl HBv7_3.out rfl (by kernel_rfl) (by simp [Value.oneCell']) ?_
          intro v7_4 hy cy
          have HL : Chg 0 0 w5 v7_4 := HSv7_3.out.step cy (by have := HSz.out; omega)
          refine ⟨HL, held_done (by kernel_rfl) (NoPanic.normal ?_)⟩
          have HR : Hid (v7_4.heap[v7_2.heap.size]? = some (logO 29 ta tb tc td te) ∧ Chg 0 0 w5 v7_4) := ⟨hy, HL⟩
          clear HL hy cy
          go_wp2
          go_meet
          exact ⟨v7_2.heap.size, rfl, HR.out⟩
        · skip
          have HSz : Hid (w5.heap.size ≤ v7_1.heap.size) := Chg.size (HSv7_1.out)
          have cv7_5 : Chg 0 0 v7_1 (v7_1.alloc (logO 29 0 0 0 0 0)) := Chg.alloc (Chg.refl 0 0 _) _
          have HSv7_5 : Hid (Chg 0 0 w5 (v7_1.alloc (logO 29 0 0 0 0 0))) := HSv7_1.out.trans cv7_5
          have HBv7_5 : Hid ((v7_1.alloc (logO 29 0 0 0 0 0)).heap[v7_1.heap.size]? = some (logO 29 0 0 0 0 0)) := heap_new _ _
          clear cv7_5
          go_simp
          refine ⟨HSv7_5.out, ?_⟩
          generalize v7_1.alloc (logO 29 0 0 0 0 0) = v7_5 at *
          refine held_one 3 rfl rfl (by kernel_rfl) ?_
          refine wp_enter 8 #[logV sz st sq hd us, .agg #[.int .i64 t.seq, .slice xo t.homes.length xcap, .slice yo t.revs.length ycap]] (by first | kernel_rfl | go_simp) (HIN.out _ _ _ _ (HS5.out.2.2.trans HSv7_5.out) (by have := Chg.size (HSv7_5.out); omega) (HTX.out.chg HSv7_5.out (by omega))) ?_
          rintro e v7_6 ⟨rfl, cv7_6⟩
          have HSv7_6 : Hid (Chg 0 0 w5 v7_6) := HSv7_5.out.trans cv7_6
          have HBv7_6 : Hid (v7_6.heap[v7_1.heap.size]? = some (logO 29 0 0 0 0 0)) := (cv7_6.block _ (Array.getElem?_eq_some_iff.1 HBv7_5.out).1 (by omega)).trans HBv7_5.out
          clear cv7_6
          refine ⟨_, rfl, HSv7_6.out, ?_⟩
          go_simp
          refine held_one 5 rfl rfl (by kernel_rfl) ?_
          refine wp_store_row 29 (.tmp 8) (.tmp 24) rfl rfl (v7_1.heap.size) rfl [.int .i64 ta, .int .i64 tb, .int .i64 tc, .int .i64 td, .int .i64 te] [.int .i64 0, .int .i64 0, .int .i64 0, .int .i64 0, .int .i64 0] 29 rfl HBv7_6.out rfl (by kernel_rfl) (by simp [Value.oneCell']) ?_
          intro v7_7 hy cy
          have HL : Chg 0 0 w5 v7_7 := HSv7_6.out.step cy (by have := HSz.out; omega)
          refine ⟨HL, held_done (by kernel_rfl) (NoPanic.normal ?_)⟩
          have HR : Hid (v7_7.heap[v7_1.heap.size]? = some (logO 29 ta tb tc td te) ∧ Chg 0 0 w5 v7_7) := ⟨hy, HL⟩
          clear HL hy cy
          go_wp2
          go_meet
          exact ⟨v7_1.heap.size, rfl, HR.out⟩
      · skip
        have HSz : Hid (w5.heap.size ≤ wd.heap.size) := Chg.size (HS.out)
        have cv7_8 : Chg 0 0 wd (wd.alloc (logO 29 0 0 0 0 0)) := Chg.alloc (Chg.refl 0 0 _) _
        have HSv7_8 : Hid (Chg 0 0 w5 (wd.alloc (logO 29 0 0 0 0 0))) := HS.out.trans cv7_8
        have HBv7_8 : Hid ((wd.alloc (logO 29 0 0 0 0 0)).heap[wd.heap.size]? = some (logO 29 0 0 0 0 0)) := heap_new _ _
        clear cv7_8
        go_simp
        refine ⟨HSv7_8.out, ?_⟩
        generalize wd.alloc (logO 29 0 0 0 0 0) = v7_8 at *
        refine held_one 1 rfl rfl (by kernel_rfl) ?_
        refine wp_enter 6 #[logV sz st sq hd us] (by first | kernel_rfl | go_simp) (toLog_calls _ sz st sq hd us) ?_
        rintro e v7_9 ⟨rfl, cv7_9⟩
        have HSv7_9 : Hid (Chg 0 0 w5 v7_9) := HSv7_8.out.trans cv7_9
        have HBv7_9 : Hid (v7_9.heap[wd.heap.size]? = some (logO 29 0 0 0 0 0)) := (cv7_9.block _ (Array.getElem?_eq_some_iff.1 HBv7_8.out).1 (by omega)).trans HBv7_8.out
        clear cv7_9
        refine ⟨_, rfl, HSv7_9.out, ?_⟩
        go_simp
        refine held_one 3 rfl rfl (by kernel_rfl) ?_
        refine wp_enter 8 #[logV sz st sq hd us, .agg #[.int .i64 t.seq, .slice xo t.homes.length xcap, .slice yo t.revs.length ycap]] (by first | kernel_rfl | go_simp) (HIN.out _ _ _ _ (HS5.out.2.2.trans HSv7_9.out) (by have := Chg.size (HSv7_9.out); omega) (HTX.out.chg HSv7_9.out (by omega))) ?_
        rintro e v7_10 ⟨rfl, cv7_10⟩
        have HSv7_10 : Hid (Chg 0 0 w5 v7_10) := HSv7_9.out.trans cv7_10
        have HBv7_10 : Hid (v7_10.heap[wd.heap.size]? = some (logO 29 0 0 0 0 0)) := (cv7_10.block _ (Array.getElem?_eq_some_iff.1 HBv7_9.out).1 (by omega)).trans HBv7_9.out
        clear cv7_10
        refine ⟨_, rfl, HSv7_10.out, ?_⟩
        go_simp
        refine held_one 5 rfl rfl (by kernel_rfl) ?_
        refine wp_store_row 29 (.tmp 8) (.tmp 24) rfl rfl (wd.heap.size) rfl [.int .i64 ta, .int .i64 tb, .int .i64 tc, .int .i64 td, .int .i64 te] [.int .i64 0, .int .i64 0, .int .i64 0, .int .i64 0, .int .i64 0] 29 rfl HBv7_10.out rfl (by kernel_rfl) (by simp [Value.oneCell']) ?_
        intro v7_11 hy cy
        have HL : Chg 0 0 w5 v7_11 := HSv7_10.out.step cy (by have := HSz.out; omega)
        refine ⟨HL, held_done (by kernel_rfl) (NoPanic.normal ?_)⟩
        have HR : Hid (v7_11.heap[wd.heap.size]? = some (logO 29 ta tb tc td te) ∧ Chg 0 0 w5 v7_11) := ⟨hy, HL⟩
        clear HL hy cy
        go_wp2
        go_meet
        exact ⟨wd.heap.size, rfl, HR.out⟩
    case rest =>
      obtain ⟨b8, rfl, hB8, hc6⟩ := hcut
      have q6 := (hc6.block _ (Array.getElem?_eq_some_iff.1 HB65.out).1 (by omega)).trans HB65.out
      have HS6 : Hid (LwS w sz st sq hd us t.seq (.slice po t.homes.length pcap) (.slice ao t.revs.length cap) wc) := HS5.out.keep hc6
      have HX6 : Hid (wc.heap[b7]? = some (.cells #[.int .i64 t.seq, .slice xo t.homes.length xcap, .slice yo t.revs.length ycap] 34 (0, 0))) := (hc6.block _ (by omega) (by omega)).trans HX.out
      have HTX6 : Hid (TView wc lx b7 (.agg #[.int .i64 t.seq, .slice xo t.homes.length xcap, .slice yo t.revs.length ycap]) t) := HTX.out.chg hc6 (by omega)
      have s6 := hc6.size
      obtain ⟨x0, x1, x2, x3, x4⟩ := five_cells q6
      obtain ⟨y0, y1, y2, y3, y4⟩ := five_cells hB8
      clear q6 hB8 hc6 HX HTX HS5 HB65
      go_wp2_with fail
      refine (eqLog_calls _ ta tb tc td te).mono ?_
      rintro e w7 ⟨rfl, h7⟩
      have HA7 : Hid (LwS w sz st sq hd us t.seq (.slice po t.homes.length pcap) (.slice ao t.revs.length cap) w7) := HS6.out.keep h7
      have HX7 : Hid (w7.heap[b7]? = some (.cells #[.int .i64 t.seq, .slice xo t.homes.length xcap, .slice yo t.revs.length ycap] 34 (0, 0))) := (h7.block _ (by omega) (by omega)).trans HX6.out
      have HTX7 : Hid (TView w7 lx b7 (.agg #[.int .i64 t.seq, .slice xo t.homes.length xcap, .slice yo t.revs.length ycap]) t) := HTX6.out.chg h7 (by omega)
      have s7 := h7.size
      clear h7 x0 x1 x2 x3 x4 y0 y1 y2 y3 y4 HX6 HTX6 HS6
      obtain ⟨⟨k0, k1, k2⟩, _⟩ := tri HA7.out.2.1
      obtain ⟨⟨x0, x1, x2⟩, _⟩ := tri HX7.out
      have hN := toTxn_calls w7.drew Hl.out (HT.out _ HA7.out.2.2.drew)
      go_wp2
      go_region_with (first
        | (go_at_call 7; refine hN.mono ?_; rintro e w8 ⟨zv, rfl, zt, h8⟩; have y0 := h8.cell (show w7.drew.cell? ⟨b7, 0, none⟩ = _ from x0) (by omega); have y1 := h8.cell (show w7.drew.cell? ⟨b7, 1, none⟩ = _ from x1) (by omega); have y2 := h8.cell (show w7.drew.cell? ⟨b7, 2, none⟩ = _ from x2) (by omega))
        | (go_at_call 10; refine (eqTxn_calls _ (HTX7.out.chg ((Chg.drew (Chg.refl 0 0 w7)).trans h8) (by omega)) zt).mono ?_; rintro e w9 ⟨rfl, h9⟩))
      all_goals
        have HA9 : Hid (Chg 0 0 w w9) := (HA7.out.2.2.drew.trans h8).trans h9
        clear h8 h9 zt
        go_wp2
        go_ret
        exact ⟨rfl, HA9.out.below (by omega)⟩

/-- What the row lists. -/
abbrev lt : List (String × DataW Unit) := Rows.fnExactLogNextRow.laid

theorem mag_of_row {W : World} (h : laidMetH Tryz.prog lt W) : Mag W := by
  have h' : laidMet Tryz.prog [("loop.example/s01525/impl.journalMagic", Rows.laid_loop_example_s01525_impl_journalMagic)] W := h
  exact jourM_of_laid h'

/-- A world that meets the condition. -/
def laidWorld (p : Program) (os : Os) : World :=
  let w0 := World.holding p os ⟨#[], #[], []⟩
  { w0 with heap := w0.heap.modify 0 fun
      | .cells _ t frozen => .cells #[.int .u8 106, .int .u8 108, .int .u8 111, .int .u8 103] t frozen
      | o => o }

theorem laidWorld_met (os : Os) (args : Array Value) : laidMetH Tryz.prog lt ((laidWorld Tryz.prog os).forCall (fun _ _ => 0) ⟨#[], args, []⟩).memory :=
  laidMetH_of_parts (laidMet_of_run (ps := [.cell 0 0, .cell 0 1, .cell 0 2, .cell 0 3]) 8 (by kernel_rfl) (by kernel_rfl) (by kernel_rfl)) (by kernel_rfl)

set_option maxRecDepth 100000 in
theorem lawLogNext_lifted (os : Os) (started : os.Started) (H : Type) (enc : TypeId × Value → H) :
    ReturnsInHanded {} Tryz.checked os 3 .any (fun w args => (Rows.fnExactLogNextSpec.pre enc Tryz.prog Tryz.f3 [] false w args ∧ laidMetH Tryz.prog lt w) ∧ sizedMet enc Tryz.prog Tryz.f3 (OpenSpec.ofChange Rows.fnExactLogNextSpec) false w args)
      (Rows.fnExactLogNextSpec.post enc Tryz.prog Tryz.f3 false true false false) := by
  refine returnsInHanded_of_change_and (C := Tryz.checked) (X := fun w _ => laidMetH Tryz.prog lt w) (fun _ _ _ hh h => h.of_heap hh) own started (by kernel_rfl) Tryz.func3
    (ChangeSpec.witness_at (enc := enc) (C := Tryz.checked) (os := os) (X := fun w _ => laidMetH Tryz.prog lt w) false (laidWorld Tryz.prog os) #[.agg #[.int .i64 0, .int .i64 0, .int .i64 0, .int .i64 0, .int .i64 0], .agg #[.int .i64 0, .slice none 0 0, .slice none 0 0]] 8 rfl (by kernel_rfl) (by kernel_rfl) (by kernel_rfl) (by kernel_rfl) (by kernel_rfl) (laidWorld_met os _)) ?_
  intro W base args ds gs before hval0 hW _ _ hL _
  have hval : ∀ (j : Nat) t v, Tryz.f3.params[j]? = some t → args[j]? = some v → Value.okWide Tryz.prog W .any base t v := hval0
  have hW' := hW
  obtain ⟨p, q, hA0, hV0, rfl, hfz, hnd⟩ := hW
  have hA : DataW.TrodAll enc Tryz.prog W 0 (fun _ => true) true Tryz.f3.params.toList args.toList ds p := hA0
  rw [Tryz.params3] at hA hval
  obtain ⟨v0, vs0, d0, ds0, p0, q0, hargs, rfl, rfl, h0, r0⟩ := trodAll_cons hA
  obtain ⟨v1, vs1, d1, ds1, p1, q1, hargs1, rfl, rfl, h1, r1⟩ := trodAll_cons r0
  obtain ⟨rfl, rfl, rfl⟩ := trodAll_nil r1
  obtain rfl : args = #[v0, v1] := by cases args; simp_all
  have k0 := h0
  have lt0 : ∀ x ∈ p0, x.block < W.heap.size := by obtain ⟨m, hm⟩ := k0; exact DataW.trod_lt m _ _ _ hm
  have k1 := h1
  have lt1 : ∀ x ∈ p1, x.block < W.heap.size := by obtain ⟨m, hm⟩ := k1; exact DataW.trod_lt m _ _ _ hm
  obtain ⟨sz, st, sq, hd, us, rfl⟩ := log_of_trod (hval 0 23 v0 rfl rfl) h0
  obtain ⟨t, hT, hBy⟩ := tviewB_of_trod (hval 1 27 v1 rfl rfl) h1
  obtain ⟨g1, rfl⟩ : ∃ g1, gs = [g1] := by
    match gs, hV0 with
    | [g1], _ => exact ⟨g1, rfl⟩
  clear hA0 hval0
  refine (lawLogNext_walk W sz st sq hd us hBy (mag_of_row hL) hT).mono fun e W' ⟨he, bel⟩ => ?_
  subst he
  exact ⟨_, rfl, _, _, _, [], _, _, hW', trodAll_mk1 (shut_bool Tryz.underlying4 _), (trodAll_cons_mk (Below.trod laidOut (by kernel_rfl) (of_decide_eq_true (by kernel_rfl)) k0 bel lt0) (trodAll_cons_mk (Below.trod laidOut (by kernel_rfl) (of_decide_eq_true (by kernel_rfl)) k1 bel lt1) trodAll_mk0)), Below.trodVars laidOut bel (by kernel_rfl) hV0, bel.frame _, fun h => by cases h⟩

theorem fnExactLogNext_row : Rows.FnExactLogNextSaid :=
  OpenClaim.holds_of_wide 3 Tryz.f3 rfl rfl rfl rfl rfl rfl rfl ⟨rfl, rfl, rfl, rfl, rfl⟩ rfl rfl rfl rfl rfl (by kernel_rfl) Tryz.func3 (by kernel_rfl)
    (of_decide_eq_true (by kernel_rfl)) (by unfold Func.isWrapper; first | (rw [if_pos (by decide +kernel)]; kernel_rfl) | (rw [if_neg (by decide +kernel)]; exact ⟨rfl, rfl⟩))
    (fun os started H enc _ => lawLogNext_lifted os started H enc)
#print axioms fnExactLogNext_row
end Go.Proofs.YtmipmkledbfdaaaGreatDoor

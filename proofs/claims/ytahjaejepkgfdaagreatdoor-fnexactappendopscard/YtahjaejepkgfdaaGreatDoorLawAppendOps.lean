/- The law on AppendOps; its row. (made by tools/mklawapp.py) -/
import Derived.Test.YtahjaejepkgfdaaGreatDoorImplApp
import Derived.Test.YtahjaejepkgfdaaGreatDoorTxnMark
import Derived.Test.YtahjaejepkgfdaaGreatDoorOpsCnt
import Derived.Test.YtahjaejepkgfdaaGreatDoorLaidG
namespace Go.Proofs.YtahjaejepkgfdaaGreatDoor
open Go.ChangeShapes Go.WideShapes Go.ChangeAt Go.RowKit

set_option maxRecDepth 20000 in
set_option maxHeartbeats 8000000 in
theorem lawAppend_walk (w : World) {a : Value} {t : Tx} (sz st sq hd us : Int) (hby : ∀ x ∈ t.homes, Byt x.2) (hM : Mag w) (h1 : TView w 0 w.heap.size a t) :
    Calls Tryz.prog 3 #[logV sz st sq hd us, a] w fun e w' => e = .returned (.bool true) ∧ Below w.heap.size w w' := by
  have T0 := h1
  have hMl := hM.lt
  have HBy : Hid (∀ x ∈ t.homes, Byt x.2) := hby
  have HMg : Hid (Mag w) := hM
  have hmx : Tryz.prog.follows .mixedOrders = true := by kernel_rfl
  have hcn := appO_cnt sz st sq hd us hby
  obtain ⟨hv, rv, rfl, p1, v1⟩ := h1
  obtain ⟨po, pcap, rfl⟩ := p1.slice
  obtain ⟨ao, cap, rfl⟩ := v1.slice
  have HT : Hid (∀ W, Chg 0 0 w W → TView W 0 w.heap.size (.agg #[.int .i64 t.seq, .slice po t.homes.length pcap, .slice ao t.revs.length cap]) t) := fun W hW => T0.chg hW (by omega)
  clear hby hM T0 p1 v1
  have HA0 : Hid (Chg 0 0 w ((w.alloc (.cells #[.int .i64 sz, .int .i64 st, .int .i64 sq, .int .i64 hd, .int .i64 us] 23)).alloc (.cells #[.int .i64 t.seq, .slice po t.homes.length pcap, .slice ao t.revs.length cap] 27))) := (Chg.alloc (Chg.refl 0 0 w) _).alloc _
  obtain ⟨s0, b0, b1⟩ := alloc2 w (.cells #[.int .i64 sz, .int .i64 st, .int .i64 sq, .int .i64 hd, .int .i64 us] 23) (.cells #[.int .i64 t.seq, .slice po t.homes.length pcap, .slice ao t.revs.length cap] 27)
  have HB0 : Hid (((w.alloc (.cells #[.int .i64 sz, .int .i64 st, .int .i64 sq, .int .i64 hd, .int .i64 us] 23)).alloc (.cells #[.int .i64 t.seq, .slice po t.homes.length pcap, .slice ao t.revs.length cap] 27)).heap[w.heap.size]? = some (.cells #[.int .i64 sz, .int .i64 st, .int .i64 sq, .int .i64 hd, .int .i64 us] 23 (0, 0))) := b0
  have HC0 : Hid (((w.alloc (.cells #[.int .i64 sz, .int .i64 st, .int .i64 sq, .int .i64 hd, .int .i64 us] 23)).alloc (.cells #[.int .i64 t.seq, .slice po t.homes.length pcap, .slice ao t.revs.length cap] 27)).heap[w.heap.size + 1]? = some (.cells #[.int .i64 t.seq, .slice po t.homes.length pcap, .slice ao t.revs.length cap] 27 (0, 0))) := b1
  have hN := szTxn_calls ((w.alloc (.cells #[.int .i64 sz, .int .i64 st, .int .i64 sq, .int .i64 hd, .int .i64 us] 23)).alloc (.cells #[.int .i64 t.seq, .slice po t.homes.length pcap, .slice ao t.revs.length cap] 27)) t 1048576 (by omega) (HT.out _ HA0.out)
  clear b0 b1
  go_enter Tryz.func3, Tryz.ntmps3
  go_wp2_with fail
  generalize (w.alloc (.cells #[.int .i64 sz, .int .i64 st, .int .i64 sq, .int .i64 hd, .int .i64 us] 23)).alloc (.cells #[.int .i64 t.seq, .slice po t.homes.length pcap, .slice ao t.revs.length cap] 27) = w0 at *
  refine (hN).mono ?_
  rintro e w1 ⟨rfl, h1⟩
  have HA1 : Hid (Chg 0 0 w w1) := HA0.out.trans h1
  have s1 := h1.size
  have HB1 : Hid (w1.heap[w.heap.size]? = some (.cells #[.int .i64 sz, .int .i64 st, .int .i64 sq, .int .i64 hd, .int .i64 us] 23 (0, 0))) := (h1.block _ (by omega) (by omega)).trans HB0.out
  have HC1 : Hid (w1.heap[w.heap.size + 1]? = some (.cells #[.int .i64 t.seq, .slice po t.homes.length pcap, .slice ao t.revs.length cap] 27 (0, 0))) := (h1.block _ (by omega) (by omega)).trans HC0.out
  clear h1 HA0 HB0 HC0
  clear hN
  by_cases hl : cntT t ≤ 1048576
  case neg =>
    rw [lft_neg hl]
    clear hl
    go_wp2
    go_ret
    exact ⟨rfl, HA1.out.below (by omega)⟩
  rw [lft_pos hl]
  have Hl : Hid (cntT t ≤ 1048576) := hl
  have hp : ¬ ((1048576 - cntT t : Nat) : Int) < 0 := by omega
  obtain ⟨T, HTT⟩ : ∃ T, Hid (T = appO sz st sq hd us t) := ⟨_, rfl⟩
  rw [← HTT.out] at hcn
  have HS : Hid (∀ (W : World) (lo hi : Nat) (v : Value), hi ≤ W.heap.size → TView W lo hi v t → Calls Tryz.prog 5 #[logV sz st sq hd us, v] W fun e w' => ∃ u, e = .returned u ∧ (∃ cells dvs, OwnOx w' W.heap.size 47 5 u T cells dvs) ∧ Chg 0 0 W w') := fun W lo hi v hh hv => by rw [HTT.out]; exact specAppend_calls W sz st sq hd us Hl.out hh HBy.out hv
  have HI : Hid (∀ (W : World) (lo hi : Nat) (v : Value), Chg 0 0 w W → hi ≤ W.heap.size → TView W lo hi v t → Calls Tryz.prog 8 #[logV sz st sq hd us, v] W fun e w' => ∃ u, e = .returned u ∧ (∃ cells dvs, OwnOx w' W.heap.size 47 5 u T cells dvs) ∧ Chg 0 0 W w') := fun W lo hi v hc hh hv => by rw [HTT.out]; exact implAppend_calls W sz st sq hd us Hl.out hh HBy.out (HMg.out.chg hc (by omega)) hv
  clear hl HTT HBy HMg hMl
  generalize 1048576 - cntT t = lf at *
  go_upto_region 5 with fail
  go_wp2
  refine held_region (fun W => Chg 0 0 w1 W) hmx ?_
  have HR1 : Hid (Chg 0 0 w1 w1.drew) := Chg.drew (Chg.refl 0 0 w1)
  have hs1 := HR1.out.size
  generalize w1.drew = wd1 at *
  refine held_take 0 (logV sz st sq hd us) rfl (by kernel_rfl) (by kernel_rfl) (by kernel_rfl) (fun _ _ _ h => h) (.inl ⟨by kernel_rfl, fun w' (hw' : Chg 0 0 w1 w') => by obtain ⟨x0, x1, x2, x3, x4⟩ := five_cells ((hw'.block _ (by omega) (by omega)).trans HB1.out); go_simp⟩) HR1.out ?_
  go_simp
  refine held_take 2 (.agg #[.int .i64 t.seq, .slice po t.homes.length pcap, .slice ao t.revs.length cap]) rfl (by kernel_rfl) (by kernel_rfl) (by kernel_rfl) (fun _ _ _ h => h) (.inl ⟨by kernel_rfl, fun w' (hw' : Chg 0 0 w1 w') => by obtain ⟨⟨k0, k1, k2⟩, _⟩ := tri ((hw'.block _ (by omega) (by omega)).trans HC1.out); go_simp⟩) HR1.out ?_
  go_simp
  refine held_one 1 rfl rfl (by kernel_rfl) ?_
  refine wp_enter 6 #[logV sz st sq hd us] (by first | kernel_rfl | go_simp) (toLog_calls _ sz st sq hd us) ?_
  rintro e wr1_1 ⟨rfl, cr1_1⟩
  have HR1_1 : Hid (Chg 0 0 w1 wr1_1) := HR1.out.trans cr1_1
  have sr1_1 := cr1_1.size
  refine ⟨_, rfl, HR1_1.out, ?_⟩
  go_simp
  clear cr1_1
  refine held_one 3 rfl rfl (by kernel_rfl) ?_
  refine wp_enter 7 #[.agg #[.int .i64 t.seq, .slice po t.homes.length pcap, .slice ao t.revs.length cap]] (by first | kernel_rfl | go_simp) (toTxn_calls _ Hl.out (HT.out _ (HA1.out.trans HR1_1.out))) ?_
  rintro e wr1_2 ⟨xv, rfl, tv, cr1_2⟩
  have HR1_2 : Hid (Chg 0 0 w1 wr1_2) := HR1_1.out.trans cr1_2
  have sr1_2 := cr1_2.size
  obtain ⟨xh, xr, rfl, xp, xw⟩ := id tv
  obtain ⟨xo, xcap, rfl⟩ := xp.slice
  obtain ⟨yo, ycap, rfl⟩ := xw.slice
  have VX : Hid (TView wr1_2 wr1_1.heap.size wr1_2.heap.size (.agg #[.int .i64 t.seq, .slice xo t.homes.length xcap, .slice yo t.revs.length ycap]) t) := tv
  clear tv xp xw
  refine ⟨_, rfl, HR1_2.out, ?_⟩
  go_simp
  clear cr1_2
  refine held_one 4 rfl rfl (by kernel_rfl) ?_
  refine wp_enter 5 #[logV sz st sq hd us, .agg #[.int .i64 t.seq, .slice xo t.homes.length xcap, .slice yo t.revs.length ycap]] (by first | kernel_rfl | go_simp) (HS.out _ _ _ _ (Nat.le_refl _) VX.out) ?_
  rintro e wr1_3 ⟨vs, rfl, ⟨cs, ds, os⟩, cr1_3⟩
  have HR1_3 : Hid (Chg 0 0 w1 wr1_3) := HR1_2.out.trans cr1_3
  have sr1_3 := cr1_3.size
  have VS0 : Hid (OView wr1_3 wr1_2.heap.size wr1_3.heap.size vs T) := os.look (by omega)
  obtain ⟨sa, sl, sc, rfl⟩ := row_slice os.row
  clear os VX
  refine ⟨_, rfl, HR1_3.out, ?_⟩
  go_simp
  clear cr1_3
  refine held_take 5 (.slice sa sl sc) rfl (by kernel_rfl) (by kernel_rfl) (by kernel_rfl) (fun _ _ _ h => h) (.inl ⟨by kernel_rfl, fun w' (hw' : Chg 0 0 w1 w') => by go_simp⟩) HR1_3.out ?_
  go_simp
  refine held_done (by kernel_rfl) (NoPanic.normal ?_)
  have hreg1 := HR1_3.out
  have HA2 : Hid (Chg 0 0 w wr1_3) := HA1.out.trans hreg1
  have s2 := hreg1.size
  have HB2 : Hid (wr1_3.heap[w.heap.size]? = some (.cells #[.int .i64 sz, .int .i64 st, .int .i64 sq, .int .i64 hd, .int .i64 us] 23 (0, 0))) := (hreg1.block _ (by omega) (by omega)).trans HB1.out
  have HC2 : Hid (wr1_3.heap[w.heap.size + 1]? = some (.cells #[.int .i64 t.seq, .slice po t.homes.length pcap, .slice ao t.revs.length cap] 27 (0, 0))) := (hreg1.block _ (by omega) (by omega)).trans HC1.out
  clear HA1 HB1 HC1
  clear hreg1
  clear hp
  have VS2 : Hid (OView wr1_3 wr1_2.heap.size wr1_3.heap.size (.slice sa sl sc) T) := VS0.out
  clear VS0
  obtain ⟨⟨k0, k1, k2⟩, _⟩ := tri HC2.out
  go_wp2_with fail
  clear k0 k1 k2
  refine (toTxn_own _ Hl.out (HT.out _ HA2.out)).mono ?_
  rintro e w3 ⟨yv, rfl, tv, tw, h3⟩
  have HA3 : Hid (Chg 0 0 w w3) := HA2.out.trans h3
  have s3 := h3.size
  have HB3 : Hid (w3.heap[w.heap.size]? = some (.cells #[.int .i64 sz, .int .i64 st, .int .i64 sq, .int .i64 hd, .int .i64 us] 23 (0, 0))) := (h3.block _ (by omega) (by omega)).trans HB2.out
  have HC3 : Hid (w3.heap[w.heap.size + 1]? = some (.cells #[.int .i64 t.seq, .slice po t.homes.length pcap, .slice ao t.revs.length cap] 27 (0, 0))) := (h3.block _ (by omega) (by omega)).trans HC2.out
  have VS3 : Hid (OView w3 wr1_2.heap.size wr1_3.heap.size (.slice sa sl sc) T) := VS2.out.chg h3 (by omega)
  obtain ⟨xh2, xr2, rfl, xp, xw⟩ := id tv
  obtain ⟨xo2, xcap2, rfl⟩ := xp.slice
  obtain ⟨yo2, ycap2, rfl⟩ := xw.slice
  have VY3 : Hid (TView w3 wr1_3.heap.size w3.heap.size (.agg #[.int .i64 t.seq, .slice xo2 t.homes.length xcap2, .slice yo2 t.revs.length ycap2]) t) := tv
  have OY3 : Hid (TOwn w3 wr1_3.heap.size w3.heap.size (.agg #[.int .i64 t.seq, .slice xo2 t.homes.length xcap2, .slice yo2 t.revs.length ycap2]) t) := tw
  clear tv tw xp xw
  clear h3 HA2 HB2 HC2 VS2
  have h4 : Chg 0 0 w3 (w3.alloc (.cells #[.int .i64 t.seq, .slice xo2 t.homes.length xcap2, .slice yo2 t.revs.length ycap2] 35)) := Chg.alloc (Chg.refl 0 0 _) _
  have sx4 : (w3.alloc (.cells #[.int .i64 t.seq, .slice xo2 t.homes.length xcap2, .slice yo2 t.revs.length ycap2] 35)).heap.size = w3.heap.size + 1 := by simp
  have HA4 : Hid (Chg 0 0 w (w3.alloc (.cells #[.int .i64 t.seq, .slice xo2 t.homes.length xcap2, .slice yo2 t.revs.length ycap2] 35))) := HA3.out.trans h4
  have s4 := h4.size
  have HB4 : Hid ((w3.alloc (.cells #[.int .i64 t.seq, .slice xo2 t.homes.length xcap2, .slice yo2 t.revs.length ycap2] 35)).heap[w.heap.size]? = some (.cells #[.int .i64 sz, .int .i64 st, .int .i64 sq, .int .i64 hd, .int .i64 us] 23 (0, 0))) := (h4.block _ (by omega) (by omega)).trans HB3.out
  have HC4 : Hid ((w3.alloc (.cells #[.int .i64 t.seq, .slice xo2 t.homes.length xcap2, .slice yo2 t.revs.length ycap2] 35)).heap[w.heap.size + 1]? = some (.cells #[.int .i64 t.seq, .slice po t.homes.length pcap, .slice ao t.revs.length cap] 27 (0, 0))) := (h4.block _ (by omega) (by omega)).trans HC3.out
  have VS4 : Hid (OView (w3.alloc (.cells #[.int .i64 t.seq, .slice xo2 t.homes.length xcap2, .slice yo2 t.revs.length ycap2] 35)) wr1_2.heap.size wr1_3.heap.size (.slice sa sl sc) T) := VS3.out.chg h4 (by omega)
  have VY4 : Hid (TView (w3.alloc (.cells #[.int .i64 t.seq, .slice xo2 t.homes.length xcap2, .slice yo2 t.revs.length ycap2] 35)) wr1_3.heap.size w3.heap.size (.agg #[.int .i64 t.seq, .slice xo2 t.homes.length xcap2, .slice yo2 t.revs.length ycap2]) t) := VY3.out.chg h4 (by omega)
  have OY4 : Hid (TOwn (w3.alloc (.cells #[.int .i64 t.seq, .slice xo2 t.homes.length xcap2, .slice yo2 t.revs.length ycap2] 35)) wr1_3.heap.size w3.heap.size (.agg #[.int .i64 t.seq, .slice xo2 t.homes.length xcap2, .slice yo2 t.revs.length ycap2]) t) := OY3.out.chg h4 (by omega)
  clear HA3 HB3 HC3 VS3 VY3 OY3
  have BX4 : Hid ((w3.alloc (.cells #[.int .i64 t.seq, .slice xo2 t.homes.length xcap2, .slice yo2 t.revs.length ycap2] 35)).heap[w3.heap.size]? = some (.cells #[.int .i64 t.seq, .slice xo2 t.homes.length xcap2, .slice yo2 t.revs.length ycap2] 35 (0, 0))) := heap_new _ _
  clear h4
  go_upto_region 7 with fail
  generalize w3.alloc (.cells #[.int .i64 t.seq, .slice xo2 t.homes.length xcap2, .slice yo2 t.revs.length ycap2] 35) = wx4 at *
  go_upto_region 7 with fail
  go_wp2
  refine held_region (fun W => Chg 0 0 wx4 W) hmx ?_
  have HR2 : Hid (Chg 0 0 wx4 wx4.drew) := Chg.drew (Chg.refl 0 0 wx4)
  have hs2 := HR2.out.size
  generalize wx4.drew = wd2 at *
  refine held_take 0 (logV sz st sq hd us) rfl (by kernel_rfl) (by kernel_rfl) (by kernel_rfl) (fun _ _ _ h => h) (.inl ⟨by kernel_rfl, fun w' (hw' : Chg 0 0 wx4 w') => by obtain ⟨x0, x1, x2, x3, x4⟩ := five_cells ((hw'.block _ (by omega) (by omega)).trans HB4.out); go_simp⟩) HR2.out ?_
  go_simp
  refine held_take 2 (.agg #[.int .i64 t.seq, .slice xo2 t.homes.length xcap2, .slice yo2 t.revs.length ycap2]) rfl (by kernel_rfl) (by kernel_rfl) (by kernel_rfl) (fun _ _ _ h => h) (.inl ⟨by kernel_rfl, fun w' (hw' : Chg 0 0 wx4 w') => by obtain ⟨⟨k0, k1, k2⟩, _⟩ := tri ((hw'.block _ (by omega) (by omega)).trans BX4.out); go_simp⟩) HR2.out ?_
  go_simp
  refine held_one 1 rfl rfl (by kernel_rfl) ?_
  refine wp_enter 6 #[logV sz st sq hd us] (by first | kernel_rfl | go_simp) (toLog_calls _ sz st sq hd us) ?_
  rintro e wr2_1 ⟨rfl, cr2_1⟩
  have HR2_1 : Hid (Chg 0 0 wx4 wr2_1) := HR2.out.trans cr2_1
  have sr2_1 := cr2_1.size
  refine ⟨_, rfl, HR2_1.out, ?_⟩
  go_simp
  clear cr2_1
  refine held_one 3 rfl rfl (by kernel_rfl) ?_
  refine wp_enter 8 #[logV sz st sq hd us, .agg #[.int .i64 t.seq, .slice xo2 t.homes.length xcap2, .slice yo2 t.revs.length ycap2]] (by first | kernel_rfl | go_simp) (HI.out _ _ _ _ (HA4.out.trans HR2_1.out) (by omega) (VY4.out.chg HR2_1.out (by omega))) ?_
  rintro e wr2_2 ⟨vg, rfl, ⟨cg, dg, og⟩, cr2_2⟩
  have HR2_2 : Hid (Chg 0 0 wx4 wr2_2) := HR2_1.out.trans cr2_2
  have sr2_2 := cr2_2.size
  have VG0 : Hid (OView wr2_2 wr2_1.heap.size wr2_2.heap.size vg T) := og.look (by omega)
  obtain ⟨ga, gl, gc, rfl⟩ := row_slice og.row
  have HG0 : Hid (OwnOx wr2_2 wr2_1.heap.size 47 5 (.slice ga gl gc) T cg dg) := og
  have GB : Hid (∀ g, (Value.slice ga gl gc).ownBlock = some g → wr2_1.heap.size ≤ g ∧ g < wr2_2.heap.size) := og.lt'
  have GD : Hid (∀ i g, i < T.length → (dg i).ownBlock = some g → wr2_1.heap.size ≤ g ∧ g < wr2_2.heap.size) := og.dlt'
  clear og
  refine ⟨_, rfl, HR2_2.out, ?_⟩
  go_simp
  clear cr2_2
  refine held_take 4 (.slice ga gl gc) rfl (by kernel_rfl) (by kernel_rfl) (by kernel_rfl) (fun _ _ _ h => h) (.inl ⟨by kernel_rfl, fun w' (hw' : Chg 0 0 wx4 w') => by go_simp⟩) HR2_2.out ?_
  go_simp
  refine held_done (by kernel_rfl) (NoPanic.normal ?_)
  have hreg2 := HR2_2.out
  have HA5 : Hid (Chg 0 0 w wr2_2) := HA4.out.trans hreg2
  have s5 := hreg2.size
  have HB5 : Hid (wr2_2.heap[w.heap.size]? = some (.cells #[.int .i64 sz, .int .i64 st, .int .i64 sq, .int .i64 hd, .int .i64 us] 23 (0, 0))) := (hreg2.block _ (by omega) (by omega)).trans HB4.out
  have HC5 : Hid (wr2_2.heap[w.heap.size + 1]? = some (.cells #[.int .i64 t.seq, .slice po t.homes.length pcap, .slice ao t.revs.length cap] 27 (0, 0))) := (hreg2.block _ (by omega) (by omega)).trans HC4.out
  have BX5 : Hid (wr2_2.heap[w3.heap.size]? = some (.cells #[.int .i64 t.seq, .slice xo2 t.homes.length xcap2, .slice yo2 t.revs.length ycap2] 35 (0, 0))) := (hreg2.block _ (by omega) (by omega)).trans BX4.out
  have VS5 : Hid (OView wr2_2 wr1_2.heap.size wr1_3.heap.size (.slice sa sl sc) T) := VS4.out.chg hreg2 (by omega)
  have VY5 : Hid (TView wr2_2 wr1_3.heap.size w3.heap.size (.agg #[.int .i64 t.seq, .slice xo2 t.homes.length xcap2, .slice yo2 t.revs.length ycap2]) t) := VY4.out.chg hreg2 (by omega)
  have OY5 : Hid (TOwn wr2_2 wr1_3.heap.size w3.heap.size (.agg #[.int .i64 t.seq, .slice xo2 t.homes.length xcap2, .slice yo2 t.revs.length ycap2]) t) := OY4.out.chg hreg2 (by omega)
  clear HA4 HB4 HC4 BX4 VS4 VY4 OY4
  clear hreg2
  have VG5 : Hid (OView wr2_2 wr2_1.heap.size wr2_2.heap.size (.slice ga gl gc) T) := VG0.out
  have HG5 : Hid (OwnOx wr2_2 wr2_1.heap.size 47 5 (.slice ga gl gc) T cg dg) := HG0.out
  clear VG0 HG0
  go_wp2_with fail
  refine (eqOpS_calls _ VG5.out VS5.out).mono ?_
  rintro e w6 ⟨rfl, h6⟩
  have HA6 : Hid (Chg 0 0 w w6) := HA5.out.trans h6
  have s6 := h6.size
  have HB6 : Hid (w6.heap[w.heap.size]? = some (.cells #[.int .i64 sz, .int .i64 st, .int .i64 sq, .int .i64 hd, .int .i64 us] 23 (0, 0))) := (h6.block _ (by omega) (by omega)).trans HB5.out
  have HC6 : Hid (w6.heap[w.heap.size + 1]? = some (.cells #[.int .i64 t.seq, .slice po t.homes.length pcap, .slice ao t.revs.length cap] 27 (0, 0))) := (h6.block _ (by omega) (by omega)).trans HC5.out
  have BX6 : Hid (w6.heap[w3.heap.size]? = some (.cells #[.int .i64 t.seq, .slice xo2 t.homes.length xcap2, .slice yo2 t.revs.length ycap2] 35 (0, 0))) := (h6.block _ (by omega) (by omega)).trans BX5.out
  have VS6 : Hid (OView w6 wr1_2.heap.size wr1_3.heap.size (.slice sa sl sc) T) := VS5.out.chg h6 (by omega)
  have VY6 : Hid (TView w6 wr1_3.heap.size w3.heap.size (.agg #[.int .i64 t.seq, .slice xo2 t.homes.length xcap2, .slice yo2 t.revs.length ycap2]) t) := VY5.out.chg h6 (by omega)
  have OY6 : Hid (TOwn w6 wr1_3.heap.size w3.heap.size (.agg #[.int .i64 t.seq, .slice xo2 t.homes.length xcap2, .slice yo2 t.revs.length ycap2]) t) := OY5.out.chg h6 (by omega)
  have VG6 : Hid (OView w6 wr2_1.heap.size wr2_2.heap.size (.slice ga gl gc) T) := VG5.out.chg h6 (by omega)
  have HG6 : Hid (OwnOx w6 wr2_1.heap.size 47 5 (.slice ga gl gc) T cg dg) := HG5.out.chg h6 (fun g hg => by have := GB.out g hg; omega) (fun i g hi hg => by have := GD.out i g hi hg; omega)
  clear h6 HA5 HB5 HC5 BX5 VS5 VY5 OY5 VG5 HG5
  go_upto_region 10 with fail
  go_wp2
  refine held_region (fun W => Chg 0 0 w6 W) hmx ?_
  have HR3 : Hid (Chg 0 0 w6 w6.drew) := Chg.drew (Chg.refl 0 0 w6)
  have hs3 := HR3.out.size
  generalize w6.drew = wd3 at *
  refine held_take 0 (.agg #[.int .i64 t.seq, .slice xo2 t.homes.length xcap2, .slice yo2 t.revs.length ycap2]) rfl (by kernel_rfl) (by kernel_rfl) (by kernel_rfl) (fun _ _ _ h => h) (.inl ⟨by kernel_rfl, fun w' (hw' : Chg 0 0 w6 w') => by obtain ⟨⟨k0, k1, k2⟩, _⟩ := tri ((hw'.block _ (by omega) (by omega)).trans BX6.out); go_simp⟩) HR3.out ?_
  go_simp
  refine held_take 1 (.agg #[.int .i64 t.seq, .slice po t.homes.length pcap, .slice ao t.revs.length cap]) rfl (by kernel_rfl) (by kernel_rfl) (by kernel_rfl) (fun _ _ _ h => h) (.inl ⟨by kernel_rfl, fun w' (hw' : Chg 0 0 w6 w') => by obtain ⟨⟨k0, k1, k2⟩, _⟩ := tri ((hw'.block _ (by omega) (by omega)).trans HC6.out); go_simp⟩) HR3.out ?_
  go_simp
  refine held_one 2 rfl rfl (by kernel_rfl) ?_
  refine wp_enter 7 #[.agg #[.int .i64 t.seq, .slice po t.homes.length pcap, .slice ao t.revs.length cap]] (by first | kernel_rfl | go_simp) (toTxn_calls _ Hl.out (HT.out _ (HA6.out.trans HR3.out))) ?_
  rintro e wr3_1 ⟨zv, rfl, zt, cr3_1⟩
  have HR3_1 : Hid (Chg 0 0 w6 wr3_1) := HR3.out.trans cr3_1
  have sr3_1 := cr3_1.size
  have ZT : Hid (TView wr3_1 wd3.heap.size wr3_1.heap.size zv t) := zt
  obtain ⟨zh, zr, rfl, zp, zw⟩ := id zt
  obtain ⟨zo, zcap, rfl⟩ := zp.slice
  obtain ⟨zo2, zcap2, rfl⟩ := zw.slice
  clear zt zp zw
  refine ⟨_, rfl, HR3_1.out, ?_⟩
  go_simp
  clear cr3_1
  refine held_one 3 rfl rfl (by kernel_rfl) ?_
  refine wp_enter 10 #[.agg #[.int .i64 t.seq, .slice xo2 t.homes.length xcap2, .slice yo2 t.revs.length ycap2], .agg #[.int .i64 t.seq, .slice zo t.homes.length zcap, .slice zo2 t.revs.length zcap2]] (by first | kernel_rfl | go_simp) (eqTxn_calls _ (VY6.out.chg HR3_1.out (by omega)) ZT.out) ?_
  rintro e wr3_2 ⟨rfl, cr3_2⟩
  have HR3_2 : Hid (Chg 0 0 w6 wr3_2) := HR3_1.out.trans cr3_2
  have sr3_2 := cr3_2.size
  clear ZT
  refine ⟨_, rfl, HR3_2.out, ?_⟩
  go_simp
  clear cr3_2
  refine held_take 4 (.bool false) rfl (by kernel_rfl) (by kernel_rfl) (by kernel_rfl) (fun _ _ _ h => h) (.inl ⟨by kernel_rfl, fun w' (hw' : Chg 0 0 w6 w') => by go_simp⟩) HR3_2.out ?_
  go_simp
  refine held_done (by kernel_rfl) (NoPanic.normal ?_)
  have hreg3 := HR3_2.out
  have HA7 : Hid (Chg 0 0 w wr3_2) := HA6.out.trans hreg3
  have s7 := hreg3.size
  have HB7 : Hid (wr3_2.heap[w.heap.size]? = some (.cells #[.int .i64 sz, .int .i64 st, .int .i64 sq, .int .i64 hd, .int .i64 us] 23 (0, 0))) := (hreg3.block _ (by omega) (by omega)).trans HB6.out
  have HC7 : Hid (wr3_2.heap[w.heap.size + 1]? = some (.cells #[.int .i64 t.seq, .slice po t.homes.length pcap, .slice ao t.revs.length cap] 27 (0, 0))) := (hreg3.block _ (by omega) (by omega)).trans HC6.out
  have BX7 : Hid (wr3_2.heap[w3.heap.size]? = some (.cells #[.int .i64 t.seq, .slice xo2 t.homes.length xcap2, .slice yo2 t.revs.length ycap2] 35 (0, 0))) := (hreg3.block _ (by omega) (by omega)).trans BX6.out
  have VS7 : Hid (OView wr3_2 wr1_2.heap.size wr1_3.heap.size (.slice sa sl sc) T) := VS6.out.chg hreg3 (by omega)
  have VY7 : Hid (TView wr3_2 wr1_3.heap.size w3.heap.size (.agg #[.int .i64 t.seq, .slice xo2 t.homes.length xcap2, .slice yo2 t.revs.length ycap2]) t) := VY6.out.chg hreg3 (by omega)
  have OY7 : Hid (TOwn wr3_2 wr1_3.heap.size w3.heap.size (.agg #[.int .i64 t.seq, .slice xo2 t.homes.length xcap2, .slice yo2 t.revs.length ycap2]) t) := OY6.out.chg hreg3 (by omega)
  have VG7 : Hid (OView wr3_2 wr2_1.heap.size wr2_2.heap.size (.slice ga gl gc) T) := VG6.out.chg hreg3 (by omega)
  have HG7 : Hid (OwnOx wr3_2 wr2_1.heap.size 47 5 (.slice ga gl gc) T cg dg) := HG6.out.chg hreg3 (fun g hg => by have := GB.out g hg; omega) (fun i g hi hg => by have := GD.out i g hi hg; omega)
  clear HA6 HB6 HC6 BX6 VS6 VY6 OY6 VG6 HG6
  clear hreg3
  obtain ⟨⟨j0, j1, j2⟩, _⟩ := tri BX7.out
  go_wp2_with fail
  clear j0 j1 j2
  refine (markTxn_calls _ _ t 1 wr1_3.heap.size w3.heap.size (by have := Hl.out; omega) OY7.out (by omega)).mono ?_
  rintro e w8 ⟨⟨kk, rfl⟩, h8⟩
  have HA8 : Hid (Chg 0 0 w w8) := HA7.out.step h8 (by have := HA7.out.size; omega)
  have s8 := h8.size
  have HB8 : Hid (w8.heap[w.heap.size]? = some (.cells #[.int .i64 sz, .int .i64 st, .int .i64 sq, .int .i64 hd, .int .i64 us] 23 (0, 0))) := (h8.block _ (by omega) (by omega)).trans HB7.out
  have HC8 : Hid (w8.heap[w.heap.size + 1]? = some (.cells #[.int .i64 t.seq, .slice po t.homes.length pcap, .slice ao t.revs.length cap] 27 (0, 0))) := (h8.block _ (by omega) (by omega)).trans HC7.out
  have BX8 : Hid (w8.heap[w3.heap.size]? = some (.cells #[.int .i64 t.seq, .slice xo2 t.homes.length xcap2, .slice yo2 t.revs.length ycap2] 35 (0, 0))) := (h8.block _ (by omega) (by omega)).trans BX7.out
  have VS8 : Hid (OView w8 wr1_2.heap.size wr1_3.heap.size (.slice sa sl sc) T) := VS7.out.chg h8 (by omega)
  have VG8 : Hid (OView w8 wr2_1.heap.size wr2_2.heap.size (.slice ga gl gc) T) := VG7.out.chg h8 (by omega)
  have HG8 : Hid (OwnOx w8 wr2_1.heap.size 47 5 (.slice ga gl gc) T cg dg) := HG7.out.chg h8 (fun g hg => by have := GB.out g hg; omega) (fun i g hi hg => by have := GD.out i g hi hg; omega)
  clear h8 HA7 HB7 HC7 BX7 VS7 VY7 OY7 VG7 HG7
  have hkk : ¬ ((kk : Int) < 0) := by omega
  go_wp2_with fail
  clear hkk
  refine (eqOpS_calls _ VG8.out VS8.out).mono ?_
  rintro e w9 ⟨rfl, h9⟩
  have HA9 : Hid (Chg 0 0 w w9) := HA8.out.trans h9
  have s9 := h9.size
  have HB9 : Hid (w9.heap[w.heap.size]? = some (.cells #[.int .i64 sz, .int .i64 st, .int .i64 sq, .int .i64 hd, .int .i64 us] 23 (0, 0))) := (h9.block _ (by omega) (by omega)).trans HB8.out
  have HC9 : Hid (w9.heap[w.heap.size + 1]? = some (.cells #[.int .i64 t.seq, .slice po t.homes.length pcap, .slice ao t.revs.length cap] 27 (0, 0))) := (h9.block _ (by omega) (by omega)).trans HC8.out
  have BX9 : Hid (w9.heap[w3.heap.size]? = some (.cells #[.int .i64 t.seq, .slice xo2 t.homes.length xcap2, .slice yo2 t.revs.length ycap2] 35 (0, 0))) := (h9.block _ (by omega) (by omega)).trans BX8.out
  have VS9 : Hid (OView w9 wr1_2.heap.size wr1_3.heap.size (.slice sa sl sc) T) := VS8.out.chg h9 (by omega)
  have HG9 : Hid (OwnOx w9 wr2_1.heap.size 47 5 (.slice ga gl gc) T cg dg) := HG8.out.chg h9 (fun g hg => by have := GB.out g hg; omega) (fun i g hi hg => by have := GD.out i g hi hg; omega)
  clear h9 HA8 HB8 HC8 BX8 VS8 VG8 HG8
  go_wp2_with fail
  refine (markO_calls _ _ _ T 1 wr2_1.heap.size wr2_2.heap.size (by have := cnt2_ge T; omega) (by omega) cg dg HG9.out GB.out GD.out).mono ?_
  rintro e w10 ⟨rfl, ⟨c12, o12⟩, h10⟩
  have HA10 : Hid (Chg 0 0 w w10) := HA9.out.step h10 (by have := HA9.out.size; omega)
  have s10 := h10.size
  have HB10 : Hid (w10.heap[w.heap.size]? = some (.cells #[.int .i64 sz, .int .i64 st, .int .i64 sq, .int .i64 hd, .int .i64 us] 23 (0, 0))) := (h10.block _ (by omega) (by omega)).trans HB9.out
  have HC10 : Hid (w10.heap[w.heap.size + 1]? = some (.cells #[.int .i64 t.seq, .slice po t.homes.length pcap, .slice ao t.revs.length cap] 27 (0, 0))) := (h10.block _ (by omega) (by omega)).trans HC9.out
  have BX10 : Hid (w10.heap[w3.heap.size]? = some (.cells #[.int .i64 t.seq, .slice xo2 t.homes.length xcap2, .slice yo2 t.revs.length ycap2] 35 (0, 0))) := (h10.block _ (by omega) (by omega)).trans BX9.out
  have VS10 : Hid (OView w10 wr1_2.heap.size wr1_3.heap.size (.slice sa sl sc) T) := VS9.out.chg h10 (by omega)
  have VM12 := o12.look (by rw [cnt2_mkOs]; omega)
  clear o12
  clear h10 HA9 HB9 HC9 BX9 VS9 HG9
  go_wp2_with fail
  refine (heldO_calls _ T 1 (by omega) VM12).mono ?_
  rintro e w11 ⟨rfl, h11⟩
  have h11 := h11.chg 0 0
  have HA11 : Hid (Chg 0 0 w w11) := HA10.out.trans h11
  have s11 := h11.size
  have HB11 : Hid (w11.heap[w.heap.size]? = some (.cells #[.int .i64 sz, .int .i64 st, .int .i64 sq, .int .i64 hd, .int .i64 us] 23 (0, 0))) := (h11.block _ (by omega) (by omega)).trans HB10.out
  have HC11 : Hid (w11.heap[w.heap.size + 1]? = some (.cells #[.int .i64 t.seq, .slice po t.homes.length pcap, .slice ao t.revs.length cap] 27 (0, 0))) := (h11.block _ (by omega) (by omega)).trans HC10.out
  have BX11 : Hid (w11.heap[w3.heap.size]? = some (.cells #[.int .i64 t.seq, .slice xo2 t.homes.length xcap2, .slice yo2 t.revs.length ycap2] 35 (0, 0))) := (h11.block _ (by omega) (by omega)).trans BX10.out
  have VS11 : Hid (OView w11 wr1_2.heap.size wr1_3.heap.size (.slice sa sl sc) T) := VS10.out.chg h11 (by omega)
  clear VM12
  clear h11 HA10 HB10 HC10 BX10 VS10
  have hk0 : ¬ (((1 + cnt2 T : Nat) : Int) < 0) := by omega
  have hne : (((1 + cnt2 T : Nat) : Int) != ((1 + cnt2 T : Nat) : Int)) = false := by simp
  go_upto_region 24 with fail
  go_wp2
  refine held_region (fun W => Chg 0 0 w11 W) hmx ?_
  have HR4 : Hid (Chg 0 0 w11 w11.drew) := Chg.drew (Chg.refl 0 0 w11)
  have hs4 := HR4.out.size
  generalize w11.drew = wd4 at *
  refine held_take 0 (logV sz st sq hd us) rfl (by kernel_rfl) (by kernel_rfl) (by kernel_rfl) (fun _ _ _ h => h) (.inl ⟨by kernel_rfl, fun w' (hw' : Chg 0 0 w11 w') => by obtain ⟨x0, x1, x2, x3, x4⟩ := five_cells ((hw'.block _ (by omega) (by omega)).trans HB11.out); go_simp⟩) HR4.out ?_
  go_simp
  refine held_take 2 (.agg #[.int .i64 t.seq, .slice po t.homes.length pcap, .slice ao t.revs.length cap]) rfl (by kernel_rfl) (by kernel_rfl) (by kernel_rfl) (fun _ _ _ h => h) (.inl ⟨by kernel_rfl, fun w' (hw' : Chg 0 0 w11 w') => by obtain ⟨⟨k0, k1, k2⟩, _⟩ := tri ((hw'.block _ (by omega) (by omega)).trans HC11.out); go_simp⟩) HR4.out ?_
  go_simp
  refine held_one 1 rfl rfl (by kernel_rfl) ?_
  refine wp_enter 6 #[logV sz st sq hd us] (by first | kernel_rfl | go_simp) (toLog_calls _ sz st sq hd us) ?_
  rintro e wr4_1 ⟨rfl, cr4_1⟩
  have HR4_1 : Hid (Chg 0 0 w11 wr4_1) := HR4.out.trans cr4_1
  have sr4_1 := cr4_1.size
  refine ⟨_, rfl, HR4_1.out, ?_⟩
  go_simp
  clear cr4_1
  refine held_one 3 rfl rfl (by kernel_rfl) ?_
  refine wp_enter 7 #[.agg #[.int .i64 t.seq, .slice po t.homes.length pcap, .slice ao t.revs.length cap]] (by first | kernel_rfl | go_simp) (toTxn_calls _ Hl.out (HT.out _ (HA11.out.trans HR4_1.out))) ?_
  rintro e wr4_2 ⟨xv3, rfl, tv, cr4_2⟩
  have HR4_2 : Hid (Chg 0 0 w11 wr4_2) := HR4_1.out.trans cr4_2
  have sr4_2 := cr4_2.size
  obtain ⟨xh3, xr3, rfl, xp, xw⟩ := id tv
  obtain ⟨xo, xcap, rfl⟩ := xp.slice
  obtain ⟨yo, ycap, rfl⟩ := xw.slice
  have VX3 : Hid (TView wr4_2 wr4_1.heap.size wr4_2.heap.size (.agg #[.int .i64 t.seq, .slice xo t.homes.length xcap, .slice yo t.revs.length ycap]) t) := tv
  clear tv xp xw
  refine ⟨_, rfl, HR4_2.out, ?_⟩
  go_simp
  clear cr4_2
  refine held_one 4 rfl rfl (by kernel_rfl) ?_
  refine wp_enter 8 #[logV sz st sq hd us, .agg #[.int .i64 t.seq, .slice xo t.homes.length xcap, .slice yo t.revs.length ycap]] (by first | kernel_rfl | go_simp) (HI.out _ _ _ _ (HA11.out.trans HR4_2.out) (Nat.le_refl _) VX3.out) ?_
  rintro e wr4_3 ⟨vh, rfl, ⟨ch, dh, oh⟩, cr4_3⟩
  have HR4_3 : Hid (Chg 0 0 w11 wr4_3) := HR4_2.out.trans cr4_3
  have sr4_3 := cr4_3.size
  have VH0 : Hid (OView wr4_3 wr4_2.heap.size wr4_3.heap.size vh T) := oh.look (by omega)
  obtain ⟨ha, hl3, hc3, rfl⟩ := row_slice oh.row
  clear oh VX3
  refine ⟨_, rfl, HR4_3.out, ?_⟩
  go_simp
  clear cr4_3
  refine held_take 5 (.slice ha hl3 hc3) rfl (by kernel_rfl) (by kernel_rfl) (by kernel_rfl) (fun _ _ _ h => h) (.inl ⟨by kernel_rfl, fun w' (hw' : Chg 0 0 w11 w') => by go_simp⟩) HR4_3.out ?_
  go_simp
  refine held_done (by kernel_rfl) (NoPanic.normal ?_)
  have hreg4 := HR4_3.out
  have HA12 : Hid (Chg 0 0 w wr4_3) := HA11.out.trans hreg4
  have s12 := hreg4.size
  have HB12 : Hid (wr4_3.heap[w.heap.size]? = some (.cells #[.int .i64 sz, .int .i64 st, .int .i64 sq, .int .i64 hd, .int .i64 us] 23 (0, 0))) := (hreg4.block _ (by omega) (by omega)).trans HB11.out
  have HC12 : Hid (wr4_3.heap[w.heap.size + 1]? = some (.cells #[.int .i64 t.seq, .slice po t.homes.length pcap, .slice ao t.revs.length cap] 27 (0, 0))) := (hreg4.block _ (by omega) (by omega)).trans HC11.out
  have BX12 : Hid (wr4_3.heap[w3.heap.size]? = some (.cells #[.int .i64 t.seq, .slice xo2 t.homes.length xcap2, .slice yo2 t.revs.length ycap2] 35 (0, 0))) := (hreg4.block _ (by omega) (by omega)).trans BX11.out
  have VS12 : Hid (OView wr4_3 wr1_2.heap.size wr1_3.heap.size (.slice sa sl sc) T) := VS11.out.chg hreg4 (by omega)
  clear HA11 HB11 HC11 BX11 VS11
  clear hreg4
  clear hk0 hne
  go_wp2_with fail
  refine (eqOpS_calls _ VH0.out VS12.out).mono ?_
  rintro e w13 ⟨rfl, h13⟩
  have HA13 : Hid (Chg 0 0 w w13) := HA12.out.trans h13
  have s13 := h13.size
  have HB13 : Hid (w13.heap[w.heap.size]? = some (.cells #[.int .i64 sz, .int .i64 st, .int .i64 sq, .int .i64 hd, .int .i64 us] 23 (0, 0))) := (h13.block _ (by omega) (by omega)).trans HB12.out
  have HC13 : Hid (w13.heap[w.heap.size + 1]? = some (.cells #[.int .i64 t.seq, .slice po t.homes.length pcap, .slice ao t.revs.length cap] 27 (0, 0))) := (h13.block _ (by omega) (by omega)).trans HC12.out
  have BX13 : Hid (w13.heap[w3.heap.size]? = some (.cells #[.int .i64 t.seq, .slice xo2 t.homes.length xcap2, .slice yo2 t.revs.length ycap2] 35 (0, 0))) := (h13.block _ (by omega) (by omega)).trans BX12.out
  have VS13 : Hid (OView w13 wr1_2.heap.size wr1_3.heap.size (.slice sa sl sc) T) := VS12.out.chg h13 (by omega)
  clear h13 HA12 HB12 HC12 BX12 VS12
  go_wp2
  go_ret
  exact ⟨rfl, HA13.out.below (by omega)⟩

/-- What the row lists. -/
abbrev lt : List (String × DataW Unit) := Rows.fnExactAppendOpsRow.laid

theorem magic_of_row {W : World} (h : laidMetH Tryz.prog lt W) : W.cell? ⟨0, 0, none⟩ = some (.int .u8 106) ∧ W.cell? ⟨0, 1, none⟩ = some (.int .u8 108) ∧ W.cell? ⟨0, 2, none⟩ = some (.int .u8 111) ∧ W.cell? ⟨0, 3, none⟩ = some (.int .u8 103) := by
  have h' : laidMet Tryz.prog [("loop.example/s01525/impl.journalMagic", Rows.laid_loop_example_s01525_impl_journalMagic)] W ∧ handlesMet Tryz.prog [("errors.errorType", Rows.laid_errors_errorType)] W := h
  exact magic_of_laid h'.1

/-- A world that meets the condition. -/
def laidWorld (p : Program) (os : Os) : World :=
  let w0 := World.holding p os ⟨#[], #[], []⟩
  { w0 with heap := (w0.heap.modify 0 fun
      | .cells _ t frozen => .cells #[.int .u8 106, .int .u8 108, .int .u8 111, .int .u8 103] t frozen
      | o => o).modify 1 fun
      | .cells _ t frozen => .cells #[.iface 199 (.agg #[.pointer (some ⟨4, 162, none⟩)])] t frozen
      | o => o }

theorem laidWorld_met (os : Os) (args : Array Value) : laidMetH Tryz.prog lt ((laidWorld Tryz.prog os).forCall (fun _ _ => 0) ⟨#[], args, []⟩).memory :=
  laidMetH_of_parts (laidMet_of_run (ps := [.cell 0 0, .cell 0 1, .cell 0 2, .cell 0 3]) 8 (by kernel_rfl) (by kernel_rfl) (by kernel_rfl)) (by kernel_rfl)

set_option maxRecDepth 100000 in
theorem lawAppend_lifted (os : Os) (started : os.Started) (H : Type) (enc : TypeId × Value → H) :
    ReturnsInHanded {} Tryz.checked os 3 .any (fun w args => (Rows.fnExactAppendOpsSpec.pre enc Tryz.prog Tryz.f3 [] false w args ∧ laidMetH Tryz.prog lt w) ∧ sizedMet enc Tryz.prog Tryz.f3 (OpenSpec.ofChange Rows.fnExactAppendOpsSpec) false w args)
      (Rows.fnExactAppendOpsSpec.post enc Tryz.prog Tryz.f3 false true false false) := by
  refine returnsInHanded_of_change_and (C := Tryz.checked) (X := fun w _ => laidMetH Tryz.prog lt w) (fun _ _ _ hh h => h.of_heap hh) own started (by kernel_rfl) Tryz.func3
    (ChangeSpec.witness_at (enc := enc) (C := Tryz.checked) (os := os) (X := fun w _ => laidMetH Tryz.prog lt w) false (laidWorld Tryz.prog os) #[.agg #[.int .i64 0, .int .i64 0, .int .i64 0, .int .i64 0, .int .i64 0], .agg #[.int .i64 0, .slice none 0 0, .slice none 0 0]] 8 rfl (by kernel_rfl) (by kernel_rfl) (by kernel_rfl) (by kernel_rfl) (by kernel_rfl) (laidWorld_met os _)) ?_
  intro W base args ds gs before hval0 hW _ _ hL _
  have hval : ∀ (j : Nat) t v, Tryz.f3.params[j]? = some t → args[j]? = some v → Value.okWide Tryz.prog W .any base t v := hval0
  have hW' := hW
  obtain ⟨p, q, hA0, hV0, rfl, hfz, hnd⟩ := hW
  have hA : DataW.TrodAll enc Tryz.prog W 0 (fun _ => true) true Tryz.f3.params.toList args.toList ds p := hA0
  rw [Tryz.params3] at hA hval
  obtain ⟨v0, vs0, d0, ds0, p0, q0, hargs, rfl, rfl, h0, r0⟩ := trodAll_cons hA
  obtain ⟨v1, vs1, d1, ds1, p1, q1, rfl, rfl, rfl, h1, r1⟩ := trodAll_cons r0
  obtain ⟨rfl, rfl, rfl⟩ := trodAll_nil r1
  obtain rfl : args = #[v0, v1] := by cases args; simp_all
  have k0 := h0
  have k1 := h1
  have lt0 : ∀ x ∈ p0, x.block < W.heap.size := by obtain ⟨m, hm⟩ := k0; exact DataW.trod_lt m _ _ _ hm
  have lt1 : ∀ x ∈ p1, x.block < W.heap.size := by obtain ⟨m, hm⟩ := k1; exact DataW.trod_lt m _ _ _ hm
  obtain ⟨t, hT, hBy⟩ := tviewB_of_trod (hval 1 27 v1 rfl rfl) h1
  obtain ⟨sz, st, sq, hd, us, rfl⟩ := log_of_trod (hval 0 23 v0 rfl rfl) h0
  obtain ⟨m0, m1, m2, m3⟩ := magic_of_row hL
  obtain ⟨g1, rfl⟩ : ∃ g1, gs = [g1] := by
    match gs, hV0 with
    | [g1], _ => exact ⟨g1, rfl⟩
  clear hA0 hval0
  refine (lawAppend_walk W sz st sq hd us hBy ⟨m0, m1, m2, m3⟩ hT).mono fun e W' ⟨he, bel⟩ => ?_
  subst he
  exact ⟨_, rfl, _, _, _, [], _, _, hW', trodAll_mk1 (shut_bool Tryz.underlying4 _), (trodAll_cons_mk (Below.trod laidOut (by kernel_rfl) (of_decide_eq_true (by kernel_rfl)) k0 bel lt0) (trodAll_cons_mk (Below.trod laidOut (by kernel_rfl) (of_decide_eq_true (by kernel_rfl)) k1 bel lt1) trodAll_mk0)), Below.trodVars laidOut bel (by kernel_rfl) hV0, bel.frame _, fun h => by cases h⟩

theorem fnExactAppendOps_row : Rows.FnExactAppendOpsSaid :=
  OpenClaim.holds_of_wide 3 Tryz.f3 rfl rfl rfl rfl rfl rfl rfl ⟨rfl, rfl, rfl, rfl, rfl⟩ rfl rfl rfl rfl rfl (by kernel_rfl) Tryz.func3 (by kernel_rfl)
    (of_decide_eq_true (by kernel_rfl)) (by unfold Func.isWrapper; first | (rw [if_pos (by decide +kernel)]; kernel_rfl) | (rw [if_neg (by decide +kernel)]; exact ⟨rfl, rfl⟩))
    (fun os started H enc _ => lawAppend_lifted os started H enc)
#print axioms fnExactAppendOps_row
end Go.Proofs.YtahjaejepkgfdaaGreatDoor

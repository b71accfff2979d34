/- The law on TxnBlocks; its row. (made by tools/mklawblk.py) -/
import Derived.Test.YthngniodfbljeaaGreatDoorImplBlk
import Derived.Test.YthngniodfbljeaaGreatDoorOpenTxn
import Derived.Test.YthngniodfbljeaaGreatDoorLaidMag
import Derived.Test.YthngniodfbljeaaGreatDoorBytSeen
import Derived.Test.YthngniodfbljeaaGreatDoorRowsE
import Derived.Deep.RegionWith
import Derived.Deep.DeepCutAuto
namespace Go.Proofs.YthngniodfbljeaaGreatDoor
open Go.ChangeShapes Go.WideShapes Go.ChangeAt Go.RowKit

set_option maxRecDepth 20000 in
set_option maxHeartbeats 4000000 in
theorem lawTxnBlocks_walk (w : World) {a : Value} {t : Tx} (hby : ∀ x ∈ t.homes, Byt x.2) (hM : Mag w) (h1 : TView w 0 w.heap.size a t) :
    Calls Tryz.prog 3 #[a] w fun e w' => e = .returned (.bool true) ∧ Below w.heap.size w w' := by
  have T0 := h1
  have hMl := hM.lt
  have HBy : Hid (∀ x ∈ t.homes, Byt x.2) := hby
  have HMg : Hid (Mag w) := hM
  obtain ⟨hv, rv, rfl, p1, v1⟩ := h1
  obtain ⟨po, pcap, rfl⟩ := p1.slice
  obtain ⟨ao, cap, rfl⟩ := v1.slice
  have HT : Hid (∀ W, Chg 0 0 w W → TView W 0 w.heap.size (.agg #[.int .i64 t.seq, .slice po t.homes.length pcap, .slice ao t.revs.length cap]) t) := fun W hW => T0.chg hW (by omega)
  obtain ⟨h57, h64⟩ := TL_len hby
  have hXl : (TL t).flatten.length ≤ 16448 := by rw [flat_len h64]; omega
  clear hby hM T0 p1 v1 h64
  have hA : Chg 0 0 w (w.alloc (.cells #[.int .i64 t.seq, .slice po t.homes.length pcap, .slice ao t.revs.length cap] 25)) := Chg.alloc (Chg.refl 0 0 w) _
  have B0 := heap_new w (.cells #[.int .i64 t.seq, .slice po t.homes.length pcap, .slice ao t.revs.length cap] 25)
  have s0 : (w.alloc (.cells #[.int .i64 t.seq, .slice po t.homes.length pcap, .slice ao t.revs.length cap] 25)).heap.size = w.heap.size + 1 := by simp
  have HB0 : Hid ((w.alloc (.cells #[.int .i64 t.seq, .slice po t.homes.length pcap, .slice ao t.revs.length cap] 25)).heap[w.heap.size]? = some (.cells #[.int .i64 t.seq, .slice po t.homes.length pcap, .slice ao t.revs.length cap] 25 (0, 0))) := B0
  have HA0 : Hid (Chg 0 0 w (w.alloc (.cells #[.int .i64 t.seq, .slice po t.homes.length pcap, .slice ao t.revs.length cap] 25))) := hA
  clear hA B0
  have hN := szTxn_calls (w.alloc (.cells #[.int .i64 t.seq, .slice po t.homes.length pcap, .slice ao t.revs.length cap] 25)) t 1048576 (by omega) (HT.out _ HA0.out)
  go_enter Tryz.func3, Tryz.ntmps3
  go_wp2_with fail
  generalize w.alloc (.cells #[.int .i64 t.seq, .slice po t.homes.length pcap, .slice ao t.revs.length cap] 25) = w0 at *
  refine (hN).mono ?_
  rintro e w1 ⟨rfl, h1⟩
  have HA1 : Hid (Chg 0 0 w w1) := HA0.out.trans h1
  have s1 := h1.size
  have HB1 : Hid (w1.heap[w.heap.size]? = some (.cells #[.int .i64 t.seq, .slice po t.homes.length pcap, .slice ao t.revs.length cap] 25 (0, 0))) := (h1.block _ (by omega) (by omega)).trans HB0.out
  clear h1 HA0 HB0
  clear hN
  by_cases hl : cntT t ≤ 1048576
  case neg =>
    rw [lft_neg hl]
    clear hl
    go_wp2
    go_ret
    exact ⟨rfl, HA1.out.below (by omega)⟩
  rw [lft_pos hl]
  have Hl : Hid (cntT t ≤ 1048576) := hl
  have hp : ¬ ((1048576 - cntT t : Nat) : Int) < 0 := by omega
  obtain ⟨X, HX⟩ : ∃ X, Hid (X = (TL t).flatten) := ⟨_, rfl⟩
  rw [← HX.out] at hXl
  have HS : Hid (∀ (W : World) (lo hi : Nat) (v : Value), hi ≤ W.heap.size → TView W lo hi v t → Calls Tryz.prog 5 #[v] W fun e w' => ∃ u, e = .returned u ∧ OwnB w' W.heap.size 5 u X ∧ Chg 0 0 W w') := fun W lo hi v hh hv => (specTxnBlocks_calls W Hl.out hh HBy.out hv).mono fun e w' ⟨g, c, he, ho, hc⟩ => ⟨_, he, by rw [HX.out]; exact ho, hc⟩
  have HI : Hid (∀ (W : World) (lo hi : Nat) (v : Value), Chg 0 0 w W → hi ≤ W.heap.size → TView W lo hi v t → Calls Tryz.prog 7 #[v] W fun e w' => ∃ u, e = .returned u ∧ OwnB w' W.heap.size 5 u X ∧ Chg 0 0 W w') := fun W lo hi v hc hh hv => by rw [HX.out]; exact implTxnBlocks_calls W Hl.out hh HBy.out (HMg.out.chg hc (by omega)) hv
  clear hl h57 HX HBy HMg hMl
  generalize 1048576 - cntT t = lf at *
  obtain ⟨⟨k0, k1, k2⟩, _⟩ := tri HB1.out
  go_wp2_with fail
  clear k0 k1 k2
  clear hp
  refine (toTxn_calls _ Hl.out (HT.out _ HA1.out)).mono ?_
  rintro e w2 ⟨xv, rfl, tv, h2⟩
  have HA2 : Hid (Chg 0 0 w w2) := HA1.out.trans h2
  have s2 := h2.size
  have HB2 : Hid (w2.heap[w.heap.size]? = some (.cells #[.int .i64 t.seq, .slice po t.homes.length pcap, .slice ao t.revs.length cap] 25 (0, 0))) := (h2.block _ (by omega) (by omega)).trans HB1.out
  have VX2 : Hid (TView w2 w1.heap.size w2.heap.size xv t) := tv
  clear tv
  clear h2 HA1 HB1
  go_wp2_with fail
  refine (HS.out _ _ _ _ (by omega) VX2.out).mono ?_
  rintro e w3 ⟨vs, rfl, os, h3⟩
  have HA3 : Hid (Chg 0 0 w w3) := HA2.out.trans h3
  have s3 := h3.size
  have HB3 : Hid (w3.heap[w.heap.size]? = some (.cells #[.int .i64 t.seq, .slice po t.homes.length pcap, .slice ao t.revs.length cap] 25 (0, 0))) := (h3.block _ (by omega) (by omega)).trans HB2.out
  have VS3 : Hid (View w3 w2.heap.size w3.heap.size .u8 vs X) := os.seen (by omega)
  obtain ⟨sa, sc, rfl⟩ := os.shape
  clear os VX2
  clear h3 HA2 HB2
  obtain ⟨⟨k0, k1, k2⟩, _⟩ := tri HB3.out
  go_wp2_with fail
  clear k0 k1 k2
  refine (toTxn_own _ Hl.out (HT.out _ HA3.out)).mono ?_
  rintro e w4 ⟨yv, rfl, tv, tw, h4⟩
  have HA4 : Hid (Chg 0 0 w w4) := HA3.out.trans h4
  have s4 := h4.size
  have HB4 : Hid (w4.heap[w.heap.size]? = some (.cells #[.int .i64 t.seq, .slice po t.homes.length pcap, .slice ao t.revs.length cap] 25 (0, 0))) := (h4.block _ (by omega) (by omega)).trans HB3.out
  have VS4 : Hid (View w4 w2.heap.size w3.heap.size .u8 (.slice sa X.length sc) X) := VS3.out.chg h4 (by omega)
  obtain ⟨xh, xr, rfl, xp, xw⟩ := id tv
  obtain ⟨xo, xcap, rfl⟩ := xp.slice
  obtain ⟨yo, ycap, rfl⟩ := xw.slice
  have VY4 : Hid (TView w4 w3.heap.size w4.heap.size (.agg #[.int .i64 t.seq, .slice xo t.homes.length xcap, .slice yo t.revs.length ycap]) t) := tv
  have OY4 : Hid (TOwn w4 w3.heap.size w4.heap.size (.agg #[.int .i64 t.seq, .slice xo t.homes.length xcap, .slice yo t.revs.length ycap]) t) := tw
  clear tv tw xp xw
  clear h4 HA3 HB3 VS3
  have h5 : Chg 0 0 w4 (w4.alloc (.cells #[.int .i64 t.seq, .slice xo t.homes.length xcap, .slice yo t.revs.length ycap] 31)) := Chg.alloc (Chg.refl 0 0 _) _
  have HA5 : Hid (Chg 0 0 w (w4.alloc (.cells #[.int .i64 t.seq, .slice xo t.homes.length xcap, .slice yo t.revs.length ycap] 31))) := HA4.out.trans h5
  have s5 : (w4.alloc (.cells #[.int .i64 t.seq, .slice xo t.homes.length xcap, .slice yo t.revs.length ycap] 31)).heap.size = w4.heap.size + 1 := by simp
  have HB5 : Hid ((w4.alloc (.cells #[.int .i64 t.seq, .slice xo t.homes.length xcap, .slice yo t.revs.length ycap] 31)).heap[w.heap.size]? = some (.cells #[.int .i64 t.seq, .slice po t.homes.length pcap, .slice ao t.revs.length cap] 25 (0, 0))) := (h5.block _ (by omega) (by omega)).trans HB4.out
  have VS5 : Hid (View (w4.alloc (.cells #[.int .i64 t.seq, .slice xo t.homes.length xcap, .slice yo t.revs.length ycap] 31)) w2.heap.size w3.heap.size .u8 (.slice sa X.length sc) X) := VS4.out.chg h5 (by omega)
  have VY5 : Hid (TView (w4.alloc (.cells #[.int .i64 t.seq, .slice xo t.homes.length xcap, .slice yo t.revs.length ycap] 31)) w3.heap.size w4.heap.size (.agg #[.int .i64 t.seq, .slice xo t.homes.length xcap, .slice yo t.revs.length ycap]) t) := VY4.out.chg h5 (by omega)
  have OY5 : Hid (TOwn (w4.alloc (.cells #[.int .i64 t.seq, .slice xo t.homes.length xcap, .slice yo t.revs.length ycap] 31)) w3.heap.size w4.heap.size (.agg #[.int .i64 t.seq, .slice xo t.homes.length xcap, .slice yo t.revs.length ycap]) t) := OY4.out.chg h5 (by omega)
  have BX5 : Hid ((w4.alloc (.cells #[.int .i64 t.seq, .slice xo t.homes.length xcap, .slice yo t.revs.length ycap] 31)).heap[w4.heap.size]? = some (.cells #[.int .i64 t.seq, .slice xo t.homes.length xcap, .slice yo t.revs.length ycap] 31 (0, 0))) := heap_new _ _
  clear h5 HA4 HB4 VS4 VY4 OY4
  obtain ⟨⟨j0, j1, j2⟩, _⟩ := tri BX5.out
  go_wp2_with fail
  clear j0 j1 j2
  generalize w4.alloc (.cells #[.int .i64 t.seq, .slice xo t.homes.length xcap, .slice yo t.revs.length ycap] 31) = w5 at *
  refine (HI.out _ _ _ _ HA5.out (by omega) VY5.out).mono ?_
  rintro e w6 ⟨vg, rfl, og, h6⟩
  have HA6 : Hid (Chg 0 0 w w6) := HA5.out.trans h6
  have s6 := h6.size
  have HB6 : Hid (w6.heap[w.heap.size]? = some (.cells #[.int .i64 t.seq, .slice po t.homes.length pcap, .slice ao t.revs.length cap] 25 (0, 0))) := (h6.block _ (by omega) (by omega)).trans HB5.out
  have BX6 : Hid (w6.heap[w4.heap.size]? = some (.cells #[.int .i64 t.seq, .slice xo t.homes.length xcap, .slice yo t.revs.length ycap] 31 (0, 0))) := (h6.block _ (by omega) (by omega)).trans BX5.out
  have VS6 : Hid (View w6 w2.heap.size w3.heap.size .u8 (.slice sa X.length sc) X) := VS5.out.chg h6 (by omega)
  have VY6 : Hid (TView w6 w3.heap.size w4.heap.size (.agg #[.int .i64 t.seq, .slice xo t.homes.length xcap, .slice yo t.revs.length ycap]) t) := VY5.out.chg h6 (by omega)
  have OY6 : Hid (TOwn w6 w3.heap.size w4.heap.size (.agg #[.int .i64 t.seq, .slice xo t.homes.length xcap, .slice yo t.revs.length ycap]) t) := OY5.out.chg h6 (by omega)
  have VG6 : Hid (View w6 w5.heap.size w6.heap.size .u8 vg X) := og.seen (by omega)
  obtain ⟨ga, gc, rfl⟩ := og.shape
  have HG6 : Hid (OwnB w6 w5.heap.size 5 (.slice ga X.length gc) X) := og
  have GB : Hid (∀ g, (Value.slice ga X.length gc).ownBlock = some g → w5.heap.size ≤ g ∧ g < w6.heap.size) := fun g hg => og.lt g hg
  clear og
  clear h6 HA5 HB5 BX5 VS5 VY5 OY5
  go_wp2_with fail
  refine (eqByteS_calls _ VG6.out VS6.out).mono ?_
  rintro e w7 ⟨rfl, h7⟩
  have h7 := h7.chg 0 0
  have HA7 : Hid (Chg 0 0 w w7) := HA6.out.trans h7
  have s7 := h7.size
  have HB7 : Hid (w7.heap[w.heap.size]? = some (.cells #[.int .i64 t.seq, .slice po t.homes.length pcap, .slice ao t.revs.length cap] 25 (0, 0))) := (h7.block _ (by omega) (by omega)).trans HB6.out
  have BX7 : Hid (w7.heap[w4.heap.size]? = some (.cells #[.int .i64 t.seq, .slice xo t.homes.length xcap, .slice yo t.revs.length ycap] 31 (0, 0))) := (h7.block _ (by omega) (by omega)).trans BX6.out
  have VS7 : Hid (View w7 w2.heap.size w3.heap.size .u8 (.slice sa X.length sc) X) := VS6.out.chg h7 (by omega)
  have VY7 : Hid (TView w7 w3.heap.size w4.heap.size (.agg #[.int .i64 t.seq, .slice xo t.homes.length xcap, .slice yo t.revs.length ycap]) t) := VY6.out.chg h7 (by omega)
  have OY7 : Hid (TOwn w7 w3.heap.size w4.heap.size (.agg #[.int .i64 t.seq, .slice xo t.homes.length xcap, .slice yo t.revs.length ycap]) t) := OY6.out.chg h7 (by omega)
  have VG7 : Hid (View w7 w5.heap.size w6.heap.size .u8 (.slice ga X.length gc) X) := VG6.out.chg h7 (by omega)
  have HG7 : Hid (OwnB w7 w5.heap.size 5 (.slice ga X.length gc) X) := HG6.out.chg h7 (fun g hg => by have := GB.out g hg; omega)
  clear h7 HA6 HB6 BX6 VS6 VY6 OY6 VG6 HG6
  go_upto_region 10 with fail
  go_cut [31] (fun s31 wx => s31 = .bool false ∧ Chg 0 0 w7 wx)
  case first =>
    obtain ⟨⟨k0, k1, k2⟩, _⟩ := tri HB7.out
    obtain ⟨⟨x0, x1, x2⟩, _⟩ := tri BX7.out
    have hN := toTxn_calls w7.drew Hl.out (HT.out _ HA7.out.drew)
    go_wp2
    go_region_with (first
      | (go_at_call 6; refine hN.mono ?_; rintro e w8 ⟨zv, rfl, zt, h8⟩; have y0 := h8.cell (show w7.drew.cell? ⟨w4.heap.size, 0, none⟩ = _ from x0) (by omega); have y1 := h8.cell (show w7.drew.cell? ⟨w4.heap.size, 1, none⟩ = _ from x1) (by omega); have y2 := h8.cell (show w7.drew.cell? ⟨w4.heap.size, 2, none⟩ = _ from x2) (by omega))
      | (go_at_call 9; refine (eqTxn_calls _ (VY7.out.chg ((Chg.drew (Chg.refl 0 0 w7)).trans h8) (by omega)) zt).mono ?_; rintro e w9 ⟨rfl, h9⟩))
    all_goals
      have HA9 : Hid (Chg 0 0 w7 w9) := ((Chg.drew (Chg.refl 0 0 w7)).trans h8).trans h9
      clear h8 h9 zt
      go_wp2
      go_meet
      exact ⟨rfl, HA9.out⟩
  case rest =>
  obtain ⟨rfl, hc10⟩ := hcut
  have HA8 : Hid (Chg 0 0 w wc) := HA7.out.trans hc10
  have s8 := hc10.size
  have HB8 : Hid (wc.heap[w.heap.size]? = some (.cells #[.int .i64 t.seq, .slice po t.homes.length pcap, .slice ao t.revs.length cap] 25 (0, 0))) := (hc10.block _ (by omega) (by omega)).trans HB7.out
  have BX8 : Hid (wc.heap[w4.heap.size]? = some (.cells #[.int .i64 t.seq, .slice xo t.homes.length xcap, .slice yo t.revs.length ycap] 31 (0, 0))) := (hc10.block _ (by omega) (by omega)).trans BX7.out
  have VS8 : Hid (View wc w2.heap.size w3.heap.size .u8 (.slice sa X.length sc) X) := VS7.out.chg hc10 (by omega)
  have OY8 : Hid (TOwn wc w3.heap.size w4.heap.size (.agg #[.int .i64 t.seq, .slice xo t.homes.length xcap, .slice yo t.revs.length ycap]) t) := OY7.out.chg hc10 (by omega)
  have VG8 : Hid (View wc w5.heap.size w6.heap.size .u8 (.slice ga X.length gc) X) := VG7.out.chg hc10 (by omega)
  have HG8 : Hid (OwnB wc w5.heap.size 5 (.slice ga X.length gc) X) := HG7.out.chg hc10 (fun g hg => by have := GB.out g hg; omega)
  clear HA7 HB7 BX7 VS7 VY7 OY7 VG7 HG7 hc10
  obtain ⟨⟨j0, j1, j2⟩, _⟩ := tri BX8.out
  go_wp2_with fail
  clear j0 j1 j2
  refine (markTxn_calls _ _ t 1 w3.heap.size w4.heap.size (by have := Hl.out; omega) OY8.out (by omega)).mono ?_
  rintro e w9 ⟨⟨kk, rfl⟩, h9⟩
  have HA9 : Hid (Chg 0 0 w w9) := HA8.out.step h9 (by have := HA8.out.size; omega)
  have s9 := h9.size
  have HB9 : Hid (w9.heap[w.heap.size]? = some (.cells #[.int .i64 t.seq, .slice po t.homes.length pcap, .slice ao t.revs.length cap] 25 (0, 0))) := (h9.block _ (by omega) (by omega)).trans HB8.out
  have BX9 : Hid (w9.heap[w4.heap.size]? = some (.cells #[.int .i64 t.seq, .slice xo t.homes.length xcap, .slice yo t.revs.length ycap] 31 (0, 0))) := (h9.block _ (by omega) (by omega)).trans BX8.out
  have VS9 : Hid (View w9 w2.heap.size w3.heap.size .u8 (.slice sa X.length sc) X) := VS8.out.chg h9 (by omega)
  have VG9 : Hid (View w9 w5.heap.size w6.heap.size .u8 (.slice ga X.length gc) X) := VG8.out.chg h9 (by omega)
  have HG9 : Hid (OwnB w9 w5.heap.size 5 (.slice ga X.length gc) X) := HG8.out.chg h9 (fun g hg => by have := GB.out g hg; omega)
  clear h9 HA8 HB8 BX8 VS8 OY8 VG8 HG8
  have hkk : ¬ ((kk : Int) < 0) := by omega
  go_wp2_with fail
  clear hkk
  refine (eqByteS_calls _ VG9.out VS9.out).mono ?_
  rintro e w10 ⟨rfl, h10⟩
  have h10 := h10.chg 0 0
  have HA10 : Hid (Chg 0 0 w w10) := HA9.out.trans h10
  have s10 := h10.size
  have HB10 : Hid (w10.heap[w.heap.size]? = some (.cells #[.int .i64 t.seq, .slice po t.homes.length pcap, .slice ao t.revs.length cap] 25 (0, 0))) := (h10.block _ (by omega) (by omega)).trans HB9.out
  have BX10 : Hid (w10.heap[w4.heap.size]? = some (.cells #[.int .i64 t.seq, .slice xo t.homes.length xcap, .slice yo t.revs.length ycap] 31 (0, 0))) := (h10.block _ (by omega) (by omega)).trans BX9.out
  have VS10 : Hid (View w10 w2.heap.size w3.heap.size .u8 (.slice sa X.length sc) X) := VS9.out.chg h10 (by omega)
  have HG10 : Hid (OwnB w10 w5.heap.size 5 (.slice ga X.length gc) X) := HG9.out.chg h10 (fun g hg => by have := GB.out g hg; omega)
  clear h10 HA9 HB9 BX9 VS9 VG9 HG9
  go_wp2_with fail
  refine (markByteS_calls _ _ _ _ _ 1 w5.heap.size w6.heap.size (by omega) (by omega) HG10.out GB.out).mono ?_
  rintro e w11 ⟨rfl, om, h11, _, _⟩
  have HA11 : Hid (Chg 0 0 w w11) := HA10.out.step h11 (by have := HA10.out.size; omega)
  have s11 := h11.size
  have HB11 : Hid (w11.heap[w.heap.size]? = some (.cells #[.int .i64 t.seq, .slice po t.homes.length pcap, .slice ao t.revs.length cap] 25 (0, 0))) := (h11.block _ (by omega) (by omega)).trans HB10.out
  have BX11 : Hid (w11.heap[w4.heap.size]? = some (.cells #[.int .i64 t.seq, .slice xo t.homes.length xcap, .slice yo t.revs.length ycap] 31 (0, 0))) := (h11.block _ (by omega) (by omega)).trans BX10.out
  have VS11 : Hid (View w11 w2.heap.size w3.heap.size .u8 (.slice sa X.length sc) X) := VS10.out.chg h11 (by omega)
  have VM11 : Hid (View w11 w5.heap.size w11.heap.size .u8 (.slice ga X.length gc) (marks 1 X.length)) := om.seen (by rw [marks_length]; omega)
  clear om
  clear h11 HA10 HB10 BX10 VS10 HG10
  go_wp2_with fail
  refine (heldByteS_calls _ 1 _ (by omega) VM11.out).mono ?_
  rintro e w12 ⟨rfl, h12⟩
  have h12 := h12.chg 0 0
  have HA12 : Hid (Chg 0 0 w w12) := HA11.out.trans h12
  have s12 := h12.size
  have HB12 : Hid (w12.heap[w.heap.size]? = some (.cells #[.int .i64 t.seq, .slice po t.homes.length pcap, .slice ao t.revs.length cap] 25 (0, 0))) := (h12.block _ (by omega) (by omega)).trans HB11.out
  have BX12 : Hid (w12.heap[w4.heap.size]? = some (.cells #[.int .i64 t.seq, .slice xo t.homes.length xcap, .slice yo t.revs.length ycap] 31 (0, 0))) := (h12.block _ (by omega) (by omega)).trans BX11.out
  have VS12 : Hid (View w12 w2.heap.size w3.heap.size .u8 (.slice sa X.length sc) X) := VS11.out.chg h12 (by omega)
  clear h12 HA11 HB11 BX11 VS11 VM11
  have hk0 : ¬ (((1 + X.length : Nat) : Int) < 0) := by omega
  have hne : (((1 + X.length : Nat) : Int) != ((1 + X.length : Nat) : Int)) = false := by simp
  obtain ⟨⟨k0, k1, k2⟩, _⟩ := tri HB12.out
  go_wp2_with fail
  clear k0 k1 k2
  clear hk0 hne
  refine (toTxn_calls _ Hl.out (HT.out _ HA12.out)).mono ?_
  rintro e w13 ⟨zv, rfl, tv, h13⟩
  have HA13 : Hid (Chg 0 0 w w13) := HA12.out.trans h13
  have s13 := h13.size
  have HB13 : Hid (w13.heap[w.heap.size]? = some (.cells #[.int .i64 t.seq, .slice po t.homes.length pcap, .slice ao t.revs.length cap] 25 (0, 0))) := (h13.block _ (by omega) (by omega)).trans HB12.out
  have BX13 : Hid (w13.heap[w4.heap.size]? = some (.cells #[.int .i64 t.seq, .slice xo t.homes.length xcap, .slice yo t.revs.length ycap] 31 (0, 0))) := (h13.block _ (by omega) (by omega)).trans BX12.out
  have VS13 : Hid (View w13 w2.heap.size w3.heap.size .u8 (.slice sa X.length sc) X) := VS12.out.chg h13 (by omega)
  have VZ13 : Hid (TView w13 w12.heap.size w13.heap.size zv t) := tv
  clear tv
  clear h13 HA12 HB12 BX12 VS12
  go_wp2_with fail
  refine (HI.out _ _ _ _ HA13.out (by omega) VZ13.out).mono ?_
  rintro e w14 ⟨vh, rfl, oh, h14⟩
  have HA14 : Hid (Chg 0 0 w w14) := HA13.out.trans h14
  have s14 := h14.size
  have HB14 : Hid (w14.heap[w.heap.size]? = some (.cells #[.int .i64 t.seq, .slice po t.homes.length pcap, .slice ao t.revs.length cap] 25 (0, 0))) := (h14.block _ (by omega) (by omega)).trans HB13.out
  have BX14 : Hid (w14.heap[w4.heap.size]? = some (.cells #[.int .i64 t.seq, .slice xo t.homes.length xcap, .slice yo t.revs.length ycap] 31 (0, 0))) := (h14.block _ (by omega) (by omega)).trans BX13.out
  have VS14 : Hid (View w14 w2.heap.size w3.heap.size .u8 (.slice sa X.length sc) X) := VS13.out.chg h14 (by omega)
  have VH14 : Hid (View w14 w13.heap.size w14.heap.size .u8 vh X) := oh.seen (by omega)
  obtain ⟨ha, hc, rfl⟩ := oh.shape
  clear oh VZ13
  clear h14 HA13 HB13 BX13 VS13
  go_wp2_with fail
  refine (eqByteS_calls _ VH14.out VS14.out).mono ?_
  rintro e w15 ⟨rfl, h15⟩
  have h15 := h15.chg 0 0
  have HA15 : Hid (Chg 0 0 w w15) := HA14.out.trans h15
  have s15 := h15.size
  have HB15 : Hid (w15.heap[w.heap.size]? = some (.cells #[.int .i64 t.seq, .slice po t.homes.length pcap, .slice ao t.revs.length cap] 25 (0, 0))) := (h15.block _ (by omega) (by omega)).trans HB14.out
  have BX15 : Hid (w15.heap[w4.heap.size]? = some (.cells #[.int .i64 t.seq, .slice xo t.homes.length xcap, .slice yo t.revs.length ycap] 31 (0, 0))) := (h15.block _ (by omega) (by omega)).trans BX14.out
  have VS15 : Hid (View w15 w2.heap.size w3.heap.size .u8 (.slice sa X.length sc) X) := VS14.out.chg h15 (by omega)
  have VH15 : Hid (View w15 w13.heap.size w14.heap.size .u8 (.slice ha X.length hc) X) := VH14.out.chg h15 (by omega)
  clear h15 HA14 HB14 BX14 VS14 VH14
  go_wp2
  go_ret
  exact ⟨rfl, HA15.out.below (by omega)⟩

/-- What the row lists. -/
abbrev lt : List (String × DataW Unit) := Rows.fnExactTxnBlocksRow.laid

theorem mag_of_row {W : World} (h : laidMetH Tryz.prog lt W) : Mag W := by
  have h' : laidMet Tryz.prog [("loop.example/s01525/impl.journalMagic", Rows.laid_loop_example_s01525_impl_journalMagic)] W := h
  exact jourM_of_laid h'

/-- A world that meets the condition. -/
def laidWorld (p : Program) (os : Os) : World :=
  let w0 := World.holding p os ⟨#[], #[], []⟩
  { w0 with heap := w0.heap.modify 0 fun
      | .cells _ t frozen => .cells #[.int .u8 106, .int .u8 108, .int .u8 111, .int .u8 103] t frozen
      | o => o }

theorem laidWorld_met (os : Os) (args : Array Value) : laidMetH Tryz.prog lt ((laidWorld Tryz.prog os).forCall (fun _ _ => 0) ⟨#[], args, []⟩).memory :=
  laidMetH_of_parts (laidMet_of_run (ps := [.cell 0 0, .cell 0 1, .cell 0 2, .cell 0 3]) 8 (by kernel_rfl) (by kernel_rfl) (by kernel_rfl)) (by kernel_rfl)

set_option maxRecDepth 100000 in
theorem lawTxnBlocks_lifted (os : Os) (started : os.Started) (H : Type) (enc : TypeId × Value → H) :
    ReturnsInHanded {} Tryz.checked os 3 .any (fun w args => (Rows.fnExactTxnBlocksSpec.pre enc Tryz.prog Tryz.f3 [] false w args ∧ laidMetH Tryz.prog lt w) ∧ sizedMet enc Tryz.prog Tryz.f3 (OpenSpec.ofChange Rows.fnExactTxnBlocksSpec) false w args)
      (Rows.fnExactTxnBlocksSpec.post enc Tryz.prog Tryz.f3 false true false false) := by
  refine returnsInHanded_of_change_and (C := Tryz.checked) (X := fun w _ => laidMetH Tryz.prog lt w) (fun _ _ _ hh h => h.of_heap hh) own started (by kernel_rfl) Tryz.func3
    (ChangeSpec.witness_at (enc := enc) (C := Tryz.checked) (os := os) (X := fun w _ => laidMetH Tryz.prog lt w) false (laidWorld Tryz.prog os) #[.agg #[.int .i64 0, .slice none 0 0, .slice none 0 0]] 8 rfl (by kernel_rfl) (by kernel_rfl) (by kernel_rfl) (by kernel_rfl) (by kernel_rfl) (laidWorld_met os _)) ?_
  intro W base args ds gs before hval0 hW _ _ hL _
  have hval : ∀ (j : Nat) t v, Tryz.f3.params[j]? = some t → args[j]? = some v → Value.okWide Tryz.prog W .any base t v := hval0
  have hW' := hW
  obtain ⟨p, q, hA0, hV0, rfl, hfz, hnd⟩ := hW
  have hA : DataW.TrodAll enc Tryz.prog W 0 (fun _ => true) true Tryz.f3.params.toList args.toList ds p := hA0
  rw [Tryz.params3] at hA hval
  obtain ⟨v0, vs0, d0, ds0, p0, q0, hargs, rfl, rfl, h0, r0⟩ := trodAll_cons hA
  obtain ⟨rfl, rfl, rfl⟩ := trodAll_nil r0
  obtain rfl : args = #[v0] := by cases args; simp_all
  have k0 := h0
  have lt0 : ∀ x ∈ p0, x.block < W.heap.size := by obtain ⟨m, hm⟩ := k0; exact DataW.trod_lt m _ _ _ hm
  obtain ⟨t, hT, hBy⟩ := tviewB_of_trod (hval 0 25 v0 rfl rfl) h0
  obtain ⟨g1, rfl⟩ : ∃ g1, gs = [g1] := by
    match gs, hV0 with
    | [g1], _ => exact ⟨g1, rfl⟩
  clear hA0 hval0
  refine (lawTxnBlocks_walk W hBy (mag_of_row hL) hT).mono fun e W' ⟨he, bel⟩ => ?_
  subst he
  exact ⟨_, rfl, _, _, _, [], _, _, hW', trodAll_mk1 (shut_bool Tryz.underlying4 _), (trodAll_cons_mk (Below.trod laidOut (by kernel_rfl) (of_decide_eq_true (by kernel_rfl)) k0 bel lt0) trodAll_mk0), Below.trodVars laidOut bel (by kernel_rfl) hV0, bel.frame _, fun h => by cases h⟩

theorem fnExactTxnBlocks_row : Rows.FnExactTxnBlocksSaid :=
  OpenClaim.holds_of_wide 3 Tryz.f3 rfl rfl rfl rfl rfl rfl rfl ⟨rfl, rfl, rfl, rfl, rfl⟩ rfl rfl rfl rfl rfl (by kernel_rfl) Tryz.func3 (by kernel_rfl)
    (of_decide_eq_true (by kernel_rfl)) (by unfold Func.isWrapper; first | (rw [if_pos (by decide +kernel)]; kernel_rfl) | (rw [if_neg (by decide +kernel)]; exact ⟨rfl, rfl⟩))
    (fun os started H enc _ => lawTxnBlocks_lifted os started H enc)
#print axioms fnExactTxnBlocks_row
end Go.Proofs.YthngniodfbljeaaGreatDoor

/- The law on Mkfs (made by tools/mklawmk.py). -/
import Derived.Test.YtmfkgnifkkkkiaaDoorMarkB
import Derived.Test.YtmfkgnifkkkkiaaDoorLaidJour
namespace Go.Proofs.YtmfkgnifkkkkiaaDoor
open Go.ChangeShapes Go.WideShapes Go.ChangeAt Go.RowKit

theorem splice_up {xs ys : List Int} {o a c : Nat} (h : xs.length ≤ a) (h' : ys.length ≤ c) : (splice xs o ys).length ≤ a + c := by
  unfold splice; simp only [List.length_append, List.length_take, List.length_drop]; omega
theorem mkfsD_cnt (b l n : Int) : cntD (mkfsD b l n) ≤ 1048576 := by
  unfold mkfsD
  split
  · rename_i h
    obtain ⟨p, q, r, rfl, rfl, rfl, hg, hd⟩ := geo_nat h
    obtain ⟨h1, h2, h3, h4, h5, h6⟩ := id hg
    have e1 : upN p 512 = (p + 511) / 512 := rfl
    have e2 : upN (r * 32) 64 = (r * 32 + 63) / 64 := rfl
    have e3 : dataAt p q r = 3 + q + upN p 512 + upN (r * 32) 64 := rfl
    have hl : (mkfsN p q r).length ≤ p * 64 + 64 + 64 + 64 + 64 * upN p 512 + 64 := by
      unfold mkfsN mkDur
      refine splice_up (splice_up (splice_up (splice_up (splice_up (Nat.le_of_eq List.length_replicate) (Nat.le_of_eq (fsL_len hg))) (Nat.le_of_eq (mkJ_len (by omega) (by omega)))) (Nat.le_of_eq (inoMap_len (by omega)))) (Nat.le_of_eq (blkMap_len (by omega) (by omega) (by omega)))) (Nat.le_of_eq rootL_len)
    simp only [Int.toNat_natCast, cntD]
    have hp : cnt ([] : List Wr) = 0 := rfl
    rw [hp]
    omega
  · simp [Dsk.none, cntD, cnt]
theorem mkfs_fits {d : Dsk} (h : cntD d ≤ 1048576) : d.Fits := by
  unfold cntD at h
  have h1 := cnt_ge d.pend
  refine ⟨by omega, by omega, fun i hi => ?_⟩
  have := cnt_take_succ d.pend i hi
  have := cnt_take_le d.pend (i + 1)
  omega

set_option maxRecDepth 20000 in
set_option maxHeartbeats 4000000 in
theorem lawMkfs_walk (w : World) (b l n : Int) (hs : SysM w) (m0 : w.cell? ⟨1, 0, none⟩ = some (.int .u8 106)) (m1 : w.cell? ⟨1, 1, none⟩ = some (.int .u8 108)) (m2 : w.cell? ⟨1, 2, none⟩ = some (.int .u8 111)) (m3 : w.cell? ⟨1, 3, none⟩ = some (.int .u8 103)) :
    Calls Tryd.prog 3 #[geoV b l n] w fun e w' => e = .returned (.bool true) ∧ Below w.heap.size w w' := by
  have hcnt := mkfsD_cnt b l n
  have HS : Hid (∀ W, Calls Tryd.prog 4 #[geoV b l n] W fun e w' => ∃ v, e = .returned v ∧ OwnD w' W.heap.size w'.heap.size 105 5 v (mkfsD b l n) ∧ Chg 0 0 W w') := fun W => specMkfs_calls W b l n
  have HI : Hid (∀ W, Chg 0 0 w W → Calls Tryd.prog 6 #[geoV b l n] W fun e w' => ∃ v, e = .returned v ∧ OwnD w' W.heap.size w'.heap.size 105 5 v (mkfsD b l n) ∧ Chg 0 0 W w') := fun W h => implMkfs_calls W b l n (hs.chg h) (h.cell m0 (by omega)) (h.cell m1 (by omega)) (h.cell m2 (by omega)) (h.cell m3 (by omega))
  generalize mkfsD b l n = X at *
  have hfit := mkfs_fits hcnt
  have HFit : Hid X.Fits := hfit
  clear hs m0 m1 m2 m3 hfit
  have hA : Chg 0 0 w (w.alloc (.cells #[.int .i64 b, .int .i64 l, .int .i64 n] 23)) := Chg.alloc (Chg.refl 0 0 w) _
  have B0 := heap_new w (.cells #[.int .i64 b, .int .i64 l, .int .i64 n] 23)
  have s0 : (w.alloc (.cells #[.int .i64 b, .int .i64 l, .int .i64 n] 23)).heap.size = w.heap.size + 1 := by simp
  have HB0 : Hid ((w.alloc (.cells #[.int .i64 b, .int .i64 l, .int .i64 n] 23)).heap[w.heap.size]? = some (.cells #[.int .i64 b, .int .i64 l, .int .i64 n] 23 (0, 0))) := B0
  have HA0 : Hid (Chg 0 0 w (w.alloc (.cells #[.int .i64 b, .int .i64 l, .int .i64 n] 23))) := hA
  clear hA B0
  obtain ⟨q0, q1, q2⟩ := geo3 HB0.out
  go_enter Tryd.func3, Tryd.ntmps3
  go_wp2_with fail
  clear q0 q1 q2
  generalize w.alloc (.cells #[.int .i64 b, .int .i64 l, .int .i64 n] 23) = w0 at *
  refine (toGeometry_calls _ b l n).mono ?_
  rintro e w1 ⟨rfl, h1⟩
  have HA1 : Hid (Chg 0 0 w w1) := HA0.out.trans h1
  have s1 := h1.size
  have HB1 : Hid (w1.heap[w.heap.size]? = some (.cells #[.int .i64 b, .int .i64 l, .int .i64 n] 23 (0, 0))) := (h1.block _ (by omega) (by omega)).trans HB0.out
  clear h1 HA0 HB0
  go_wp2_with fail
  refine (HS.out _).mono ?_
  rintro e w2 ⟨vs, rfl, os, h2⟩
  have HA2 : Hid (Chg 0 0 w w2) := HA1.out.trans h2
  have s2 := h2.size
  have HB2 : Hid (w2.heap[w.heap.size]? = some (.cells #[.int .i64 b, .int .i64 l, .int .i64 n] 23 (0, 0))) := (h2.block _ (by omega) (by omega)).trans HB1.out
  have VS2 : Hid (DView w2 w1.heap.size w2.heap.size vs X) := os.view HFit.out
  obtain ⟨sa, sl, sc, sa', sl', sc', rfl⟩ := os.agg
  clear os
  clear h2 HA1 HB1
  have h3 : Chg 0 0 w2 (w2.alloc (.cells #[.slice sa sl sc, .slice sa' sl' sc'] 27)) := Chg.alloc (Chg.refl 0 0 _) _
  have HA3 : Hid (Chg 0 0 w (w2.alloc (.cells #[.slice sa sl sc, .slice sa' sl' sc'] 27))) := HA2.out.trans h3
  have s3 : (w2.alloc (.cells #[.slice sa sl sc, .slice sa' sl' sc'] 27)).heap.size = w2.heap.size + 1 := by simp
  have HB3 : Hid ((w2.alloc (.cells #[.slice sa sl sc, .slice sa' sl' sc'] 27)).heap[w.heap.size]? = some (.cells #[.int .i64 b, .int .i64 l, .int .i64 n] 23 (0, 0))) := (h3.block _ (by omega) (by omega)).trans HB2.out
  have VS3 : Hid (DView (w2.alloc (.cells #[.slice sa sl sc, .slice sa' sl' sc'] 27)) w1.heap.size w2.heap.size (.agg #[.slice sa sl sc, .slice sa' sl' sc']) X) := VS2.out.chg h3 (by omega)
  have BS3 : Hid ((w2.alloc (.cells #[.slice sa sl sc, .slice sa' sl' sc'] 27)).heap[w2.heap.size]? = some (.cells #[.slice sa sl sc, .slice sa' sl' sc'] 27 (0, 0))) := heap_new _ _
  clear h3 HA2 HB2 VS2
  obtain ⟨q0, q1, q2⟩ := geo3 HB3.out
  go_wp2_with fail
  clear q0 q1 q2
  generalize w2.alloc (.cells #[.slice sa sl sc, .slice sa' sl' sc'] 27) = w3 at *
  refine (toGeometry_calls _ b l n).mono ?_
  rintro e w4 ⟨rfl, h4⟩
  have HA4 : Hid (Chg 0 0 w w4) := HA3.out.trans h4
  have s4 := h4.size
  have HB4 : Hid (w4.heap[w.heap.size]? = some (.cells #[.int .i64 b, .int .i64 l, .int .i64 n] 23 (0, 0))) := (h4.block _ (by omega) (by omega)).trans HB3.out
  have BS4 : Hid (w4.heap[w2.heap.size]? = some (.cells #[.slice sa sl sc, .slice sa' sl' sc'] 27 (0, 0))) := (h4.block _ (by omega) (by omega)).trans BS3.out
  have VS4 : Hid (DView w4 w1.heap.size w2.heap.size (.agg #[.slice sa sl sc, .slice sa' sl' sc']) X) := VS3.out.chg h4 (by omega)
  clear h4 HA3 HB3 BS3 VS3
  go_wp2_with fail
  refine (HI.out _ HA4.out).mono ?_
  rintro e w5 ⟨vg, rfl, og, h5⟩
  have HA5 : Hid (Chg 0 0 w w5) := HA4.out.trans h5
  have s5 := h5.size
  have HB5 : Hid (w5.heap[w.heap.size]? = some (.cells #[.int .i64 b, .int .i64 l, .int .i64 n] 23 (0, 0))) := (h5.block _ (by omega) (by omega)).trans HB4.out
  have BS5 : Hid (w5.heap[w2.heap.size]? = some (.cells #[.slice sa sl sc, .slice sa' sl' sc'] 27 (0, 0))) := (h5.block _ (by omega) (by omega)).trans BS4.out
  have VS5 : Hid (DView w5 w1.heap.size w2.heap.size (.agg #[.slice sa sl sc, .slice sa' sl' sc']) X) := VS4.out.chg h5 (by omega)
  have VG5 : Hid (DView w5 w4.heap.size w5.heap.size vg X) := og.view HFit.out
  obtain ⟨ga, gl, gc, ga', gl', gc', rfl⟩ := og.agg
  have HG5 : Hid (OwnD w5 w4.heap.size w5.heap.size 105 5 (.agg #[.slice ga gl gc, .slice ga' gl' gc']) X) := og
  clear og
  clear h5 HA4 HB4 BS4 VS4
  have h6 : Chg 0 0 w5 (w5.alloc (.cells #[.slice ga gl gc, .slice ga' gl' gc'] 27)) := Chg.alloc (Chg.refl 0 0 _) _
  have HA6 : Hid (Chg 0 0 w (w5.alloc (.cells #[.slice ga gl gc, .slice ga' gl' gc'] 27))) := HA5.out.trans h6
  have s6 : (w5.alloc (.cells #[.slice ga gl gc, .slice ga' gl' gc'] 27)).heap.size = w5.heap.size + 1 := by simp
  have HB6 : Hid ((w5.alloc (.cells #[.slice ga gl gc, .slice ga' gl' gc'] 27)).heap[w.heap.size]? = some (.cells #[.int .i64 b, .int .i64 l, .int .i64 n] 23 (0, 0))) := (h6.block _ (by omega) (by omega)).trans HB5.out
  have BS6 : Hid ((w5.alloc (.cells #[.slice ga gl gc, .slice ga' gl' gc'] 27)).heap[w2.heap.size]? = some (.cells #[.slice sa sl sc, .slice sa' sl' sc'] 27 (0, 0))) := (h6.block _ (by omega) (by omega)).trans BS5.out
  have VS6 : Hid (DView (w5.alloc (.cells #[.slice ga gl gc, .slice ga' gl' gc'] 27)) w1.heap.size w2.heap.size (.agg #[.slice sa sl sc, .slice sa' sl' sc']) X) := VS5.out.chg h6 (by omega)
  have VG6 : Hid (DView (w5.alloc (.cells #[.slice ga gl gc, .slice ga' gl' gc'] 27)) w4.heap.size w5.heap.size (.agg #[.slice ga gl gc, .slice ga' gl' gc']) X) := VG5.out.chg h6 (by omega)
  have HG6 : Hid (OwnD (w5.alloc (.cells #[.slice ga gl gc, .slice ga' gl' gc'] 27)) w4.heap.size w5.heap.size 105 5 (.agg #[.slice ga gl gc, .slice ga' gl' gc']) X) := HG5.out.chg h6 (by omega)
  have BG6 : Hid ((w5.alloc (.cells #[.slice ga gl gc, .slice ga' gl' gc'] 27)).heap[w5.heap.size]? = some (.cells #[.slice ga gl gc, .slice ga' gl' gc'] 27 (0, 0))) := heap_new _ _
  clear h6 HA5 HB5 BS5 VS5 VG5 HG5
  obtain ⟨x0, x1⟩ := two_first BG6.out
  obtain ⟨y0, y1⟩ := two_first BS6.out
  go_wp2_with fail
  clear x0 x1 y0 y1
  generalize w5.alloc (.cells #[.slice ga gl gc, .slice ga' gl' gc'] 27) = w6 at *
  refine (eqDisk_calls _ VG6.out VS6.out).mono ?_
  rintro e w7 ⟨rfl, h7⟩
  have HA7 : Hid (Chg 0 0 w w7) := HA6.out.trans h7
  have s7 := h7.size
  have HB7 : Hid (w7.heap[w.heap.size]? = some (.cells #[.int .i64 b, .int .i64 l, .int .i64 n] 23 (0, 0))) := (h7.block _ (by omega) (by omega)).trans HB6.out
  have BS7 : Hid (w7.heap[w2.heap.size]? = some (.cells #[.slice sa sl sc, .slice sa' sl' sc'] 27 (0, 0))) := (h7.block _ (by omega) (by omega)).trans BS6.out
  have BG7 : Hid (w7.heap[w5.heap.size]? = some (.cells #[.slice ga gl gc, .slice ga' gl' gc'] 27 (0, 0))) := (h7.block _ (by omega) (by omega)).trans BG6.out
  have VS7 : Hid (DView w7 w1.heap.size w2.heap.size (.agg #[.slice sa sl sc, .slice sa' sl' sc']) X) := VS6.out.chg h7 (by omega)
  have HG7 : Hid (OwnD w7 w4.heap.size w5.heap.size 105 5 (.agg #[.slice ga gl gc, .slice ga' gl' gc']) X) := HG6.out.chg h7 (by omega)
  clear h7 HA6 HB6 BS6 BG6 VS6 VG6 HG6
  obtain ⟨x0, x1⟩ := two_first BG7.out
  go_wp2_with fail
  clear x0 x1
  refine (markDisk_calls _ _ _ (by decide) 1 _ _ HFit.out (by omega) (by omega) HG7.out).mono ?_
  rintro e w8 ⟨rfl, om, h8⟩
  have HA8 : Hid (Chg 0 0 w w8) := HA7.out.step h8 (by have := HA7.out.size; omega)
  have s8 := h8.size
  have HB8 : Hid (w8.heap[w.heap.size]? = some (.cells #[.int .i64 b, .int .i64 l, .int .i64 n] 23 (0, 0))) := (h8.block _ (by omega) (by omega)).trans HB7.out
  have BS8 : Hid (w8.heap[w2.heap.size]? = some (.cells #[.slice sa sl sc, .slice sa' sl' sc'] 27 (0, 0))) := (h8.block _ (by omega) (by omega)).trans BS7.out
  have BG8 : Hid (w8.heap[w5.heap.size]? = some (.cells #[.slice ga gl gc, .slice ga' gl' gc'] 27 (0, 0))) := (h8.block _ (by omega) (by omega)).trans BG7.out
  have VS8 : Hid (DView w8 w1.heap.size w2.heap.size (.agg #[.slice sa sl sc, .slice sa' sl' sc']) X) := VS7.out.chg h8 (by omega)
  have VM8 : Hid (DView w8 w4.heap.size w5.heap.size (.agg #[.slice ga gl gc, .slice ga' gl' gc']) (mkD 1 X)) := om.view (mkD_fits HFit.out 1)
  clear om
  clear h8 HA7 HB7 BS7 BG7 VS7 HG7
  obtain ⟨x0, x1⟩ := two_first BG8.out
  go_wp2_with fail
  clear x0 x1
  refine (heldDisk_calls _ X 1 (by omega) VM8.out).mono ?_
  rintro e w9 ⟨rfl, h9⟩
  have HA9 : Hid (Chg 0 0 w w9) := HA8.out.trans h9
  have s9 := h9.size
  have HB9 : Hid (w9.heap[w.heap.size]? = some (.cells #[.int .i64 b, .int .i64 l, .int .i64 n] 23 (0, 0))) := (h9.block _ (by omega) (by omega)).trans HB8.out
  have BS9 : Hid (w9.heap[w2.heap.size]? = some (.cells #[.slice sa sl sc, .slice sa' sl' sc'] 27 (0, 0))) := (h9.block _ (by omega) (by omega)).trans BS8.out
  have BG9 : Hid (w9.heap[w5.heap.size]? = some (.cells #[.slice ga gl gc, .slice ga' gl' gc'] 27 (0, 0))) := (h9.block _ (by omega) (by omega)).trans BG8.out
  have VS9 : Hid (DView w9 w1.heap.size w2.heap.size (.agg #[.slice sa sl sc, .slice sa' sl' sc']) X) := VS8.out.chg h9 (by omega)
  clear h9 HA8 HB8 BS8 BG8 VS8 VM8
  have hne : (((1 + cntD X : Nat) : Int) != ((1 + cntD X : Nat) : Int)) = false := by simp
  have hk0 : ¬ (((1 + cntD X : Nat) : Int) < 0) := by omega
  obtain ⟨q0, q1, q2⟩ := geo3 HB9.out
  go_wp2_with fail
  clear q0 q1 q2
  clear hne hk0
  refine (toGeometry_calls _ b l n).mono ?_
  rintro e w10 ⟨rfl, h10⟩
  have HA10 : Hid (Chg 0 0 w w10) := HA9.out.trans h10
  have s10 := h10.size
  have HB10 : Hid (w10.heap[w.heap.size]? = some (.cells #[.int .i64 b, .int .i64 l, .int .i64 n] 23 (0, 0))) := (h10.block _ (by omega) (by omega)).trans HB9.out
  have BS10 : Hid (w10.heap[w2.heap.size]? = some (.cells #[.slice sa sl sc, .slice sa' sl' sc'] 27 (0, 0))) := (h10.block _ (by omega) (by omega)).trans BS9.out
  have BG10 : Hid (w10.heap[w5.heap.size]? = some (.cells #[.slice ga gl gc, .slice ga' gl' gc'] 27 (0, 0))) := (h10.block _ (by omega) (by omega)).trans BG9.out
  have VS10 : Hid (DView w10 w1.heap.size w2.heap.size (.agg #[.slice sa sl sc, .slice sa' sl' sc']) X) := VS9.out.chg h10 (by omega)
  clear h10 HA9 HB9 BS9 BG9 VS9
  go_wp2_with fail
  refine (HI.out _ HA10.out).mono ?_
  rintro e w11 ⟨vh, rfl, oh, h11⟩
  have HA11 : Hid (Chg 0 0 w w11) := HA10.out.trans h11
  have s11 := h11.size
  have HB11 : Hid (w11.heap[w.heap.size]? = some (.cells #[.int .i64 b, .int .i64 l, .int .i64 n] 23 (0, 0))) := (h11.block _ (by omega) (by omega)).trans HB10.out
  have BS11 : Hid (w11.heap[w2.heap.size]? = some (.cells #[.slice sa sl sc, .slice sa' sl' sc'] 27 (0, 0))) := (h11.block _ (by omega) (by omega)).trans BS10.out
  have BG11 : Hid (w11.heap[w5.heap.size]? = some (.cells #[.slice ga gl gc, .slice ga' gl' gc'] 27 (0, 0))) := (h11.block _ (by omega) (by omega)).trans BG10.out
  have VS11 : Hid (DView w11 w1.heap.size w2.heap.size (.agg #[.slice sa sl sc, .slice sa' sl' sc']) X) := VS10.out.chg h11 (by omega)
  have VH11 : Hid (DView w11 w10.heap.size w11.heap.size vh X) := oh.view HFit.out
  obtain ⟨ha, hl, hc, ha', hl', hc', rfl⟩ := oh.agg
  clear oh
  clear h11 HA10 HB10 BS10 BG10 VS10
  have h12 : Chg 0 0 w11 (w11.alloc (.cells #[.slice ha hl hc, .slice ha' hl' hc'] 27)) := Chg.alloc (Chg.refl 0 0 _) _
  have HA12 : Hid (Chg 0 0 w (w11.alloc (.cells #[.slice ha hl hc, .slice ha' hl' hc'] 27))) := HA11.out.trans h12
  have s12 : (w11.alloc (.cells #[.slice ha hl hc, .slice ha' hl' hc'] 27)).heap.size = w11.heap.size + 1 := by simp
  have HB12 : Hid ((w11.alloc (.cells #[.slice ha hl hc, .slice ha' hl' hc'] 27)).heap[w.heap.size]? = some (.cells #[.int .i64 b, .int .i64 l, .int .i64 n] 23 (0, 0))) := (h12.block _ (by omega) (by omega)).trans HB11.out
  have BS12 : Hid ((w11.alloc (.cells #[.slice ha hl hc, .slice ha' hl' hc'] 27)).heap[w2.heap.size]? = some (.cells #[.slice sa sl sc, .slice sa' sl' sc'] 27 (0, 0))) := (h12.block _ (by omega) (by omega)).trans BS11.out
  have BG12 : Hid ((w11.alloc (.cells #[.slice ha hl hc, .slice ha' hl' hc'] 27)).heap[w5.heap.size]? = some (.cells #[.slice ga gl gc, .slice ga' gl' gc'] 27 (0, 0))) := (h12.block _ (by omega) (by omega)).trans BG11.out
  have VS12 : Hid (DView (w11.alloc (.cells #[.slice ha hl hc, .slice ha' hl' hc'] 27)) w1.heap.size w2.heap.size (.agg #[.slice sa sl sc, .slice sa' sl' sc']) X) := VS11.out.chg h12 (by omega)
  have VH12 : Hid (DView (w11.alloc (.cells #[.slice ha hl hc, .slice ha' hl' hc'] 27)) w10.heap.size w11.heap.size (.agg #[.slice ha hl hc, .slice ha' hl' hc']) X) := VH11.out.chg h12 (by omega)
  have BH12 : Hid ((w11.alloc (.cells #[.slice ha hl hc, .slice ha' hl' hc'] 27)).heap[w11.heap.size]? = some (.cells #[.slice ha hl hc, .slice ha' hl' hc'] 27 (0, 0))) := heap_new _ _
  clear h12 HA11 HB11 BS11 BG11 VS11 VH11
  obtain ⟨x0, x1⟩ := two_first BH12.out
  obtain ⟨y0, y1⟩ := two_first BS12.out
  go_wp2_with fail
  clear x0 x1 y0 y1
  generalize w11.alloc (.cells #[.slice ha hl hc, .slice ha' hl' hc'] 27) = w12 at *
  refine (eqDisk_calls _ VH12.out VS12.out).mono ?_
  rintro e w13 ⟨rfl, h13⟩
  have HA13 : Hid (Chg 0 0 w w13) := HA12.out.trans h13
  have s13 := h13.size
  have HB13 : Hid (w13.heap[w.heap.size]? = some (.cells #[.int .i64 b, .int .i64 l, .int .i64 n] 23 (0, 0))) := (h13.block _ (by omega) (by omega)).trans HB12.out
  have BS13 : Hid (w13.heap[w2.heap.size]? = some (.cells #[.slice sa sl sc, .slice sa' sl' sc'] 27 (0, 0))) := (h13.block _ (by omega) (by omega)).trans BS12.out
  have BG13 : Hid (w13.heap[w5.heap.size]? = some (.cells #[.slice ga gl gc, .slice ga' gl' gc'] 27 (0, 0))) := (h13.block _ (by omega) (by omega)).trans BG12.out
  have BH13 : Hid (w13.heap[w11.heap.size]? = some (.cells #[.slice ha hl hc, .slice ha' hl' hc'] 27 (0, 0))) := (h13.block _ (by omega) (by omega)).trans BH12.out
  have VS13 : Hid (DView w13 w1.heap.size w2.heap.size (.agg #[.slice sa sl sc, .slice sa' sl' sc']) X) := VS12.out.chg h13 (by omega)
  have VH13 : Hid (DView w13 w10.heap.size w11.heap.size (.agg #[.slice ha hl hc, .slice ha' hl' hc']) X) := VH12.out.chg h13 (by omega)
  clear h13 HA12 HB12 BS12 BG12 BH12 VS12 VH12
  go_wp2
  go_ret
  exact ⟨rfl, HA13.out.below (by omega)⟩

/-- What the row lists. -/
abbrev lt : List (String × DataW Unit) := Rows.fnExactMkfsRow.laid

theorem jour_of_row {W : World} (h : laidMetH Tryd.prog lt W) :
    W.cell? ⟨1, 0, none⟩ = some (.int .u8 106) ∧ W.cell? ⟨1, 1, none⟩ = some (.int .u8 108) ∧ W.cell? ⟨1, 2, none⟩ = some (.int .u8 111) ∧ W.cell? ⟨1, 3, none⟩ = some (.int .u8 103) := by
  have h' : laidMet Tryd.prog [("loop.example/s01525/impl.journalMagic", Rows.laid_loop_example_s01525_impl_journalMagic), ("loop.example/s01525/impl.systemMagic", Rows.laid_loop_example_s01525_impl_systemMagic)] W := h
  exact jour_of_laid h'
theorem sys_of_row {W : World} (h : laidMetH Tryd.prog lt W) : SysM W := by
  have h' : laidMet Tryd.prog [("loop.example/s01525/impl.journalMagic", Rows.laid_loop_example_s01525_impl_journalMagic), ("loop.example/s01525/impl.systemMagic", Rows.laid_loop_example_s01525_impl_systemMagic)] W := h
  exact sys_of_laid h'.tail

/-- A world that meets the condition. -/
def laidWorld (p : Program) (os : Os) : World :=
  let w0 := World.holding p os ⟨#[], #[], []⟩
  { w0 with heap := (w0.heap.modify 0 fun
      | .cells _ t frozen => .cells #[.int .u8 102, .int .u8 115, .int .u8 121, .int .u8 115] t frozen
      | o => o).modify 1 fun
      | .cells _ t frozen => .cells #[.int .u8 106, .int .u8 108, .int .u8 111, .int .u8 103] t frozen
      | o => o }

theorem laidWorld_met (os : Os) (args : Array Value) : laidMetH Tryd.prog lt ((laidWorld Tryd.prog os).forCall (fun _ _ => 0) ⟨#[], args, []⟩).memory :=
  laidMetH_of_parts (laidMet_of_run (ps := [.cell 1 0, .cell 1 1, .cell 1 2, .cell 1 3, .cell 0 0, .cell 0 1, .cell 0 2, .cell 0 3]) 8 (by kernel_rfl) (by kernel_rfl) (by kernel_rfl)) (by kernel_rfl)

set_option maxRecDepth 100000 in
theorem lawMkfs_lifted (os : Os) (started : os.Started) (H : Type) (enc : TypeId × Value → H) :
    ReturnsInHanded {} Tryd.checked os 3 .any (fun w args => (Rows.fnExactMkfsSpec.pre enc Tryd.prog Tryd.f3 [] false w args ∧ laidMetH Tryd.prog lt w) ∧ sizedMet enc Tryd.prog Tryd.f3 (OpenSpec.ofChange Rows.fnExactMkfsSpec) false w args)
      (Rows.fnExactMkfsSpec.post enc Tryd.prog Tryd.f3 false true false false) := by
  refine returnsInHanded_of_change_and (C := Tryd.checked) (X := fun w _ => laidMetH Tryd.prog lt w) (fun _ _ _ hh h => h.of_heap hh) own started (by kernel_rfl) Tryd.func3
    (ChangeSpec.witness_at (enc := enc) (C := Tryd.checked) (os := os) (X := fun w _ => laidMetH Tryd.prog lt w) false (laidWorld Tryd.prog os) #[.agg #[.int .i64 0, .int .i64 0, .int .i64 0]] 8 rfl (by kernel_rfl) (by kernel_rfl) (by kernel_rfl) (by kernel_rfl) (by kernel_rfl) (laidWorld_met os _)) ?_
  intro W base args ds gs before hval0 hW _ _ hL _
  have hval : ∀ (j : Nat) t v, Tryd.f3.params[j]? = some t → args[j]? = some v → Value.okWide Tryd.prog W .any base t v := hval0
  have hW' := hW
  obtain ⟨p, q, hA0, hV0, rfl, hfz, hnd⟩ := hW
  have hA : DataW.TrodAll enc Tryd.prog W 0 (fun _ => true) true Tryd.f3.params.toList args.toList ds p := hA0
  rw [Tryd.params3] at hA hval
  obtain ⟨v0, vs0, d0, ds0, p0, q0, hargs, rfl, rfl, h0, r0⟩ := trodAll_cons hA
  obtain ⟨rfl, rfl, rfl⟩ := trodAll_nil r0
  obtain rfl : args = #[v0] := by cases args; simp_all
  obtain ⟨g1, g2, rfl⟩ : ∃ g1 g2, gs = [g1, g2] := by
    match gs, hV0 with
    | [g1, g2], _ => exact ⟨g1, g2, rfl⟩
  have k0 := h0
  have lt0 : ∀ x ∈ p0, x.block < W.heap.size := by obtain ⟨m, hm⟩ := k0; exact DataW.trod_lt m _ _ _ hm
  obtain ⟨b, l, n, rfl⟩ := geo_of_trod (hval 0 23 v0 rfl rfl) h0
  clear hA0 hval0
  obtain ⟨m0, m1, m2, m3⟩ := jour_of_row hL
  refine (lawMkfs_walk W b l n (sys_of_row hL) m0 m1 m2 m3).mono fun e W' ⟨he, bel⟩ => ?_
  subst he
  exact ⟨_, rfl, _, _, _, [], _, _, hW', trodAll_mk1 (shut_bool Tryd.underlying4 _), (trodAll_cons_mk (Below.trod laidOut (by kernel_rfl) (of_decide_eq_true (by kernel_rfl)) k0 bel lt0) trodAll_mk0), Below.trodVars laidOut bel (by kernel_rfl) hV0, bel.frame _, fun h => by cases h⟩

theorem fnExactMkfs_row : Rows.FnExactMkfsSaid :=
  OpenClaim.holds_of_wide 3 Tryd.f3 rfl rfl rfl rfl rfl rfl rfl ⟨rfl, rfl, rfl, rfl, rfl⟩ rfl rfl rfl rfl rfl (by kernel_rfl) Tryd.func3 (by kernel_rfl)
    (of_decide_eq_true (by kernel_rfl)) (by unfold Func.isWrapper; first | (rw [if_pos (by decide +kernel)]; kernel_rfl) | (rw [if_neg (by decide +kernel)]; exact ⟨rfl, rfl⟩))
    (fun os started H enc _ => lawMkfs_lifted os started H enc)
#print axioms fnExactMkfs_row
end Go.Proofs.YtmfkgnifkkkkiaaDoor

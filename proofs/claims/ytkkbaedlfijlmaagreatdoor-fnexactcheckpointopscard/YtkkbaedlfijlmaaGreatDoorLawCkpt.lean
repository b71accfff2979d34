/- The law on CheckpointOps; its row. -/
import Derived.Test.YtkkbaedlfijlmaaGreatDoorImplCkpt
import Derived.Test.YtkkbaedlfijlmaaGreatDoorEqB
import Derived.Test.YtkkbaedlfijlmaaGreatDoorToB
import Derived.Test.YtkkbaedlfijlmaaGreatDoorHomeEq
import Derived.Test.YtkkbaedlfijlmaaGreatDoorLaidG
namespace Go.Proofs.YtkkbaedlfijlmaaGreatDoor
open Go.ChangeShapes Go.WideShapes Go.ChangeAt Go.RowKit

theorem cnt2_app (xs ys : List Opx) : cnt2 (xs ++ ys) = cnt2 xs + cnt2 ys := by unfold cnt2; rw [List.map_append, List.sum_append_nat]

theorem cnt2_opsOf (ps : List Wr) : cnt2 (opsOf ps) = cnt ps + ps.length := by
  unfold cnt2 opsOf cnt
  induction ps with
  | nil => rfl
  | cons p r ih => simp at ih ⊢; omega

theorem ckptO_cnt (sz st sq hd us : Int) (ps : List Wr) (h : cnt ps ≤ 1048576) : cnt2 (ckptO sz st sq hd us ps) ≤ 4194304 := by
  have hp := cnt_ge ps
  unfold ckptO
  split
  · rename_i hv
    rw [cnt2_app, cnt2_app, cnt2_opsOf]
    have h1 : cnt2 (twoOps (supL 106 108 111 103 1 sz sq hd)) ≤ 1000 := by simp [cnt2, supL_64 (okS_of_valid hv.1)]
    have h2 : cnt2 (flushO ps) ≤ 10 := by unfold flushO; split <;> simp [cnt2]
    omega
  · simp [cnt2]

/-- Homes that are one's own, as they are seen. -/
theorem OwnPx.vwH {w : World} {base : Nat} {eW eB : TypeId} {v : Value} {ps : List Wr} {cells : List Value} {dvs : Nat → Value} (h : OwnPx w base eW eB v ps cells dvs) (hl : ps.length ≤ 9223372036854775807) (hd : ∀ i, i < ps.length → (ps.getD i (0, [])).2.length ≤ 9223372036854775807) : PView w base w.heap.size v ps :=
  h.view hl hd (fun g hg => (World.ownsRow.lt h.row g hg).2) (fun i g hi hg => ((h.data i hi).lt g hg).2)

set_option maxRecDepth 20000 in
set_option maxHeartbeats 8000000 in
theorem lawCkpt_walk (w : World) (sz st sq hd us : Int) {hi : Nat} {a : Value} {ps : List Wr} (hA0 : PView w 0 hi a ps)
    (m0 : w.cell? ⟨0, 0, none⟩ = some (.int .u8 106)) (m1 : w.cell? ⟨0, 1, none⟩ = some (.int .u8 108)) (m2 : w.cell? ⟨0, 2, none⟩ = some (.int .u8 111)) (m3 : w.cell? ⟨0, 3, none⟩ = some (.int .u8 103)) :
    Calls Tryz.prog 3 #[.agg #[.int .i64 sz, .int .i64 st, .int .i64 sq, .int .i64 hd, .int .i64 us], a] w fun e w' => e = .returned (.bool true) ∧ Below w.heap.size w w' := by
  have V0 : Hid (PView w 0 hi a ps) := hA0
  have HM : Hid (w.cell? ⟨0, 0, none⟩ = some (.int .u8 106) ∧ w.cell? ⟨0, 1, none⟩ = some (.int .u8 108) ∧ w.cell? ⟨0, 2, none⟩ = some (.int .u8 111) ∧ w.cell? ⟨0, 3, none⟩ = some (.int .u8 103)) := ⟨m0, m1, m2, m3⟩
  obtain ⟨ao, cap, rfl, _, _, _⟩ := hA0
  clear m0 m1 m2 m3
  have hA : Chg 0 0 w (w.alloc (.cells #[.int .i64 sz, .int .i64 st, .int .i64 sq, .int .i64 hd, .int .i64 us] 23)) := Chg.alloc (Chg.refl 0 0 w) _
  have B0 := heap_new w (.cells #[.int .i64 sz, .int .i64 st, .int .i64 sq, .int .i64 hd, .int .i64 us] 23)
  have s0 : (w.alloc (.cells #[.int .i64 sz, .int .i64 st, .int .i64 sq, .int .i64 hd, .int .i64 us] 23)).heap.size = w.heap.size + 1 := by simp
  have HB : Hid ((w.alloc (.cells #[.int .i64 sz, .int .i64 st, .int .i64 sq, .int .i64 hd, .int .i64 us] 23)).heap[w.heap.size]? = some (.cells #[.int .i64 sz, .int .i64 st, .int .i64 sq, .int .i64 hd, .int .i64 us] 23 (0, 0))) := B0
  have HA : Hid (Chg 0 0 w (w.alloc (.cells #[.int .i64 sz, .int .i64 st, .int .i64 sq, .int .i64 hd, .int .i64 us] 23))) := hA
  clear hA B0
  go_enter Tryz.func3, Tryz.ntmps3
  go_wp2_with fail
  generalize w.alloc (.cells #[.int .i64 sz, .int .i64 st, .int .i64 sq, .int .i64 hd, .int .i64 us] 23) = w0 at *
  refine (szHomeS_calls _ ps 1048576 (by omega) (V0.out.chg HA.out (by omega))).mono ?_
  rintro e wb ⟨rfl, hb⟩
  have HAb : Hid (Chg 0 0 w wb) := HA.out.trans hb
  have HBb : Hid (wb.heap[w.heap.size]? = some (.cells #[.int .i64 sz, .int .i64 st, .int .i64 sq, .int .i64 hd, .int .i64 us] 23 (0, 0))) := (hb.block _ (by omega) (by omega)).trans HB.out
  have sb := hb.size
  clear hb HA HB
  by_cases hcnt : cnt ps ≤ 1048576
  case neg =>
    rw [lft_neg hcnt]
    go_wp2
    go_ret
    exact ⟨rfl, HAb.out.below (by omega)⟩
  rw [lft_pos hcnt]
  have hcn := ckptO_cnt sz st sq hd us ps hcnt
  have HS : Hid (∀ (w : World) (lo hi : Nat) (hv : Value), PView w lo hi hv ps → Calls Tryz.prog 5 #[.agg #[.int .i64 sz, .int .i64 st, .int .i64 sq, .int .i64 hd, .int .i64 us], hv] w fun e w' => ∃ v, e = .returned v ∧ (∃ cells dvs, OwnOx w' w.heap.size 44 5 v (ckptO sz st sq hd us ps) cells dvs) ∧ Chg 0 0 w w') := fun w lo hi hv h => specCkpt_calls w sz st sq hd us hcnt h
  have HI : Hid (∀ (w1 : World), Chg 0 0 w w1 → ∀ (lo hi : Nat) (hv : Value), PView w1 lo hi hv ps → Calls Tryz.prog 8 #[.agg #[.int .i64 sz, .int .i64 st, .int .i64 sq, .int .i64 hd, .int .i64 us], hv] w1 fun e w' => ∃ v, e = .returned v ∧ (∃ cells dvs, OwnOx w' w1.heap.size 44 5 v (ckptO sz st sq hd us ps) cells dvs) ∧ Chg 0 0 w1 w') :=
    fun w1 h lo hi hv hp => implCkpt_calls w1 sz st sq hd us hcnt hp (h.cell HM.out.1 (by omega)) (h.cell HM.out.2.1 (by omega)) (h.cell HM.out.2.2.1 (by omega)) (h.cell HM.out.2.2.2 (by omega))
  have hpl := cnt_ge ps
  generalize ckptO sz st sq hd us ps = T at *
  clear HM
  obtain ⟨q0, q1, q2, q3, q4⟩ := five_cells HBb.out
  go_wp2_with fail
  clear q0 q1 q2 q3 q4
  refine (toLog_calls _ sz st sq hd us).mono ?_
  rintro e w1 ⟨rfl, h1⟩
  have HA1 : Hid (Chg 0 0 w w1) := HAb.out.trans h1
  have HB1 : Hid (w1.heap[w.heap.size]? = some (.cells #[.int .i64 sz, .int .i64 st, .int .i64 sq, .int .i64 hd, .int .i64 us] 23 (0, 0))) := (h1.block _ (by omega) (by omega)).trans HBb.out
  have s1 := h1.size
  clear h1 HAb HBb
  go_wp2_with fail
  refine (toHomeS_calls _ hcnt (V0.out.chg HA1.out (by omega))).mono ?_
  rintro e w2 ⟨gx, rfl, ⟨cx, dx, ox⟩, h2⟩
  have HA2 : Hid (Chg 0 0 w w2) := HA1.out.trans h2
  have HB2 : Hid (w2.heap[w.heap.size]? = some (.cells #[.int .i64 sz, .int .i64 st, .int .i64 sq, .int .i64 hd, .int .i64 us] 23 (0, 0))) := (h2.block _ (by omega) (by omega)).trans HB1.out
  have s2 := h2.size
  have VX2 : Hid (PView w2 w1.heap.size w2.heap.size (.slice (some ⟨gx, 0, none⟩) ps.length ps.length) ps) := ox.vwH (by omega) (fun i hi => by have := cnt_data hi; omega)
  clear ox
  clear h2 HA1 HB1
  go_wp2_with fail
  refine (HS.out _ _ _ _ VX2.out).mono ?_
  rintro e w3 ⟨vs, rfl, ⟨cs, ds, os⟩, h3⟩
  have HA3 : Hid (Chg 0 0 w w3) := HA2.out.trans h3
  have HB3 : Hid (w3.heap[w.heap.size]? = some (.cells #[.int .i64 sz, .int .i64 st, .int .i64 sq, .int .i64 hd, .int .i64 us] 23 (0, 0))) := (h3.block _ (by omega) (by omega)).trans HB2.out
  have s3 := h3.size
  have VS3 : Hid (OView w3 w2.heap.size w3.heap.size vs T) := os.look (by omega)
  obtain ⟨sa, sl, sc, rfl⟩ := row_slice os.row
  clear os
  clear h3 HA2 HB2 VX2
  go_wp2_with fail
  refine (toHomeS_calls _ hcnt (V0.out.chg HA3.out (by omega))).mono ?_
  rintro e w4 ⟨g1, rfl, ⟨c1, d1, o1⟩, h4⟩
  have HA4 : Hid (Chg 0 0 w w4) := HA3.out.trans h4
  have HB4 : Hid (w4.heap[w.heap.size]? = some (.cells #[.int .i64 sz, .int .i64 st, .int .i64 sq, .int .i64 hd, .int .i64 us] 23 (0, 0))) := (h4.block _ (by omega) (by omega)).trans HB3.out
  have s4 := h4.size
  have VS4 : Hid (OView w4 w2.heap.size w3.heap.size (.slice sa sl sc) T) := VS3.out.chg h4 (by omega)
  have HX4 : Hid (OwnPx w4 w3.heap.size 46 5 (.slice (some ⟨g1, 0, none⟩) ps.length ps.length) ps c1 d1) := o1
  have XB : Hid (∀ g, (Value.slice (some ⟨g1, 0, none⟩) ps.length ps.length).ownBlock = some g → w3.heap.size ≤ g ∧ g < w4.heap.size) := fun g hg => o1.lt g hg
  have XD : Hid (∀ i g, i < ps.length → (d1 i).ownBlock = some g → w3.heap.size ≤ g ∧ g < w4.heap.size) := fun i g hi hg => (o1.data i hi).lt g hg
  have VY4 : Hid (PView w4 w3.heap.size w4.heap.size (.slice (some ⟨g1, 0, none⟩) ps.length ps.length) ps) := o1.vwH (by omega) (fun i hi => by have := cnt_data hi; omega)
  clear o1
  clear h4 HA3 HB3 VS3
  obtain ⟨q0, q1, q2, q3, q4⟩ := five_cells HB4.out
  go_wp2_with fail
  clear q0 q1 q2 q3 q4
  refine (toLog_calls _ sz st sq hd us).mono ?_
  rintro e w5 ⟨rfl, h5⟩
  have HA5 : Hid (Chg 0 0 w w5) := HA4.out.trans h5
  have HB5 : Hid (w5.heap[w.heap.size]? = some (.cells #[.int .i64 sz, .int .i64 st, .int .i64 sq, .int .i64 hd, .int .i64 us] 23 (0, 0))) := (h5.block _ (by omega) (by omega)).trans HB4.out
  have s5 := h5.size
  have VS5 : Hid (OView w5 w2.heap.size w3.heap.size (.slice sa sl sc) T) := VS4.out.chg h5 (by omega)
  have VY5 : Hid (PView w5 w3.heap.size w4.heap.size (.slice (some ⟨g1, 0, none⟩) ps.length ps.length) ps) := VY4.out.chg h5 (by omega)
  have HX5 : Hid (OwnPx w5 w3.heap.size 46 5 (.slice (some ⟨g1, 0, none⟩) ps.length ps.length) ps c1 d1) := HX4.out.chg h5 (fun g hg => by have := HX4.out.lt g hg; omega) (fun i g hi hg => by have := (HX4.out.data i hi).lt g hg; omega)
  clear HX4
  clear h5 HA4 HB4 VS4 VY4
  go_wp2_with fail
  refine (HI.out _ HA5.out _ _ _ VY5.out).mono ?_
  rintro e w6 ⟨vg, rfl, ⟨cg, dg, og⟩, h6⟩
  have HA6 : Hid (Chg 0 0 w w6) := HA5.out.trans h6
  have HB6 : Hid (w6.heap[w.heap.size]? = some (.cells #[.int .i64 sz, .int .i64 st, .int .i64 sq, .int .i64 hd, .int .i64 us] 23 (0, 0))) := (h6.block _ (by omega) (by omega)).trans HB5.out
  have s6 := h6.size
  have VS6 : Hid (OView w6 w2.heap.size w3.heap.size (.slice sa sl sc) T) := VS5.out.chg h6 (by omega)
  have VY6 : Hid (PView w6 w3.heap.size w4.heap.size (.slice (some ⟨g1, 0, none⟩) ps.length ps.length) ps) := VY5.out.chg h6 (by omega)
  have VG6 : Hid (OView w6 w5.heap.size w6.heap.size vg T) := og.look (by omega)
  obtain ⟨ga, gl, gc, rfl⟩ := row_slice og.row
  have GB : Hid (∀ g, (Value.slice ga gl gc).ownBlock = some g → w5.heap.size ≤ g ∧ g < w6.heap.size) := og.lt'
  have GD : Hid (∀ i g, i < T.length → (dg i).ownBlock = some g → w5.heap.size ≤ g ∧ g < w6.heap.size) := og.dlt'
  have HG6 : Hid (OwnOx w6 w5.heap.size 44 5 (.slice ga gl gc) T cg dg) := og
  clear og
  have HX6 : Hid (OwnPx w6 w3.heap.size 46 5 (.slice (some ⟨g1, 0, none⟩) ps.length ps.length) ps c1 d1) := HX5.out.chg h6 (fun g hg => by have := HX5.out.lt g hg; omega) (fun i g hi hg => by have := (HX5.out.data i hi).lt g hg; omega)
  clear HX5
  clear h6 HA5 HB5 VS5 VY5
  go_wp2_with fail
  refine (eqOpS_calls _ VG6.out VS6.out).mono ?_
  rintro e w7 ⟨rfl, h7⟩
  have HA7 : Hid (Chg 0 0 w w7) := HA6.out.trans h7
  have HB7 : Hid (w7.heap[w.heap.size]? = some (.cells #[.int .i64 sz, .int .i64 st, .int .i64 sq, .int .i64 hd, .int .i64 us] 23 (0, 0))) := (h7.block _ (by omega) (by omega)).trans HB6.out
  have s7 := h7.size
  have VS7 : Hid (OView w7 w2.heap.size w3.heap.size (.slice sa sl sc) T) := VS6.out.chg h7 (by omega)
  have VY7 : Hid (PView w7 w3.heap.size w4.heap.size (.slice (some ⟨g1, 0, none⟩) ps.length ps.length) ps) := VY6.out.chg h7 (by omega)
  have VG7 : Hid (OView w7 w5.heap.size w6.heap.size (.slice ga gl gc) T) := VG6.out.chg h7 (by omega)
  have HG7 : Hid (OwnOx w7 w5.heap.size 44 5 (.slice ga gl gc) T cg dg) := HG6.out.chg h7 (fun g hg => by have := HG6.out.lt' g hg; omega) (fun i g hi hg => by have := HG6.out.dlt' i g hi hg; omega)
  clear HG6
  have HX7 : Hid (OwnPx w7 w3.heap.size 46 5 (.slice (some ⟨g1, 0, none⟩) ps.length ps.length) ps c1 d1) := HX6.out.chg h7 (fun g hg => by have := HX6.out.lt g hg; omega) (fun i g hi hg => by have := (HX6.out.data i hi).lt g hg; omega)
  clear HX6
  clear h7 HA6 HB6 VS6 VY6 VG6
  go_wp2_with fail
  refine (toHomeS_calls _ hcnt (V0.out.chg HA7.out (by omega))).mono ?_
  rintro e w8 ⟨g2, rfl, ⟨c2, d2, o2⟩, h8⟩
  have HA8 : Hid (Chg 0 0 w w8) := HA7.out.trans h8
  have HB8 : Hid (w8.heap[w.heap.size]? = some (.cells #[.int .i64 sz, .int .i64 st, .int .i64 sq, .int .i64 hd, .int .i64 us] 23 (0, 0))) := (h8.block _ (by omega) (by omega)).trans HB7.out
  have s8 := h8.size
  have VS8 : Hid (OView w8 w2.heap.size w3.heap.size (.slice sa sl sc) T) := VS7.out.chg h8 (by omega)
  have VY8 : Hid (PView w8 w3.heap.size w4.heap.size (.slice (some ⟨g1, 0, none⟩) ps.length ps.length) ps) := VY7.out.chg h8 (by omega)
  have VG8 : Hid (OView w8 w5.heap.size w6.heap.size (.slice ga gl gc) T) := VG7.out.chg h8 (by omega)
  have VZ8 : Hid (PView w8 w7.heap.size w8.heap.size (.slice (some ⟨g2, 0, none⟩) ps.length ps.length) ps) := o2.vwH (by omega) (fun i hi => by have := cnt_data hi; omega)
  clear o2
  have HG8 : Hid (OwnOx w8 w5.heap.size 44 5 (.slice ga gl gc) T cg dg) := HG7.out.chg h8 (fun g hg => by have := HG7.out.lt' g hg; omega) (fun i g hi hg => by have := HG7.out.dlt' i g hi hg; omega)
  clear HG7
  have HX8 : Hid (OwnPx w8 w3.heap.size 46 5 (.slice (some ⟨g1, 0, none⟩) ps.length ps.length) ps c1 d1) := HX7.out.chg h8 (fun g hg => by have := HX7.out.lt g hg; omega) (fun i g hi hg => by have := (HX7.out.data i hi).lt g hg; omega)
  clear HX7
  clear h8 HA7 HB7 VS7 VY7 VG7
  go_wp2_with fail
  refine (eqHomeS_calls _ VY8.out VZ8.out).mono ?_
  rintro e w9 ⟨rfl, h9⟩
  have HA9 : Hid (Chg 0 0 w w9) := HA8.out.trans h9
  have HB9 : Hid (w9.heap[w.heap.size]? = some (.cells #[.int .i64 sz, .int .i64 st, .int .i64 sq, .int .i64 hd, .int .i64 us] 23 (0, 0))) := (h9.block _ (by omega) (by omega)).trans HB8.out
  have s9 := h9.size
  have VS9 : Hid (OView w9 w2.heap.size w3.heap.size (.slice sa sl sc) T) := VS8.out.chg h9 (by omega)
  have VY9 : Hid (PView w9 w3.heap.size w4.heap.size (.slice (some ⟨g1, 0, none⟩) ps.length ps.length) ps) := VY8.out.chg h9 (by omega)
  have VG9 : Hid (OView w9 w5.heap.size w6.heap.size (.slice ga gl gc) T) := VG8.out.chg h9 (by omega)
  have HG9 : Hid (OwnOx w9 w5.heap.size 44 5 (.slice ga gl gc) T cg dg) := HG8.out.chg h9 (fun g hg => by have := HG8.out.lt' g hg; omega) (fun i g hi hg => by have := HG8.out.dlt' i g hi hg; omega)
  clear HG8
  have HX9 : Hid (OwnPx w9 w3.heap.size 46 5 (.slice (some ⟨g1, 0, none⟩) ps.length ps.length) ps c1 d1) := HX8.out.chg h9 (fun g hg => by have := HX8.out.lt g hg; omega) (fun i g hi hg => by have := (HX8.out.data i hi).lt g hg; omega)
  clear HX8
  clear h9 HA8 HB8 VS8 VY8 VG8 VZ8
  go_wp2_with fail
  have XB9 : Hid (∀ g, (Value.slice (some ⟨g1, 0, none⟩) ps.length ps.length).ownBlock = some g → w3.heap.size ≤ g ∧ g < w4.heap.size) := XB.out
  have XD9 : Hid (∀ i g, i < ps.length → (d1 i).ownBlock = some g → w3.heap.size ≤ g ∧ g < w4.heap.size) := XD.out
  refine (markHomeS_calls _ w3.heap.size 46 5 (by decide) _ ps 1 w3.heap.size w4.heap.size (by omega) (by omega) c1 d1 HX9.out XB9.out XD9.out).mono ?_
  rintro e w10 ⟨rfl, _, h10, _⟩
  have HA10 : Hid (Chg 0 0 w w10) := HA9.out.step h10 (by have := HA9.out.size; omega)
  have HB10 : Hid (w10.heap[w.heap.size]? = some (.cells #[.int .i64 sz, .int .i64 st, .int .i64 sq, .int .i64 hd, .int .i64 us] 23 (0, 0))) := (h10.block _ (by omega) (by omega)).trans HB9.out
  have s10 := h10.size
  have VS10 : Hid (OView w10 w2.heap.size w3.heap.size (.slice sa sl sc) T) := VS9.out.chg h10 (by omega)
  have VG10 : Hid (OView w10 w5.heap.size w6.heap.size (.slice ga gl gc) T) := VG9.out.chg h10 (by omega)
  have HG10 : Hid (OwnOx w10 w5.heap.size 44 5 (.slice ga gl gc) T cg dg) := HG9.out.chg h10 (fun g hg => by have := HG9.out.lt' g hg; omega) (fun i g hi hg => by have := HG9.out.dlt' i g hi hg; omega)
  clear HG9
  clear h10 HA9 HB9 VS9 VY9 VG9
  have hk0 : ¬ (((1 + cnt ps : Nat) : Int) < 0) := by omega
  go_wp2_with fail
  refine (eqOpS_calls _ VG10.out VS10.out).mono ?_
  rintro e w11 ⟨rfl, h11⟩
  have HA11 : Hid (Chg 0 0 w w11) := HA10.out.trans h11
  have HB11 : Hid (w11.heap[w.heap.size]? = some (.cells #[.int .i64 sz, .int .i64 st, .int .i64 sq, .int .i64 hd, .int .i64 us] 23 (0, 0))) := (h11.block _ (by omega) (by omega)).trans HB10.out
  have s11 := h11.size
  have VS11 : Hid (OView w11 w2.heap.size w3.heap.size (.slice sa sl sc) T) := VS10.out.chg h11 (by omega)
  have HG11 : Hid (OwnOx w11 w5.heap.size 44 5 (.slice ga gl gc) T cg dg) := HG10.out.chg h11 (fun g hg => by have := HG10.out.lt' g hg; omega) (fun i g hi hg => by have := HG10.out.dlt' i g hi hg; omega)
  clear HG10
  clear h11 HA10 HB10 VS10 VG10
  clear hk0
  go_wp2_with fail
  refine (markO_calls _ _ _ T 1 w5.heap.size w6.heap.size (by have := cnt2_ge T; omega) (by omega) cg dg HG11.out GB.out GD.out).mono ?_
  rintro e w12 ⟨rfl, ⟨c12, o12⟩, h12⟩
  have HA12 : Hid (Chg 0 0 w w12) := HA11.out.step h12 (by have := HA11.out.size; omega)
  have HB12 : Hid (w12.heap[w.heap.size]? = some (.cells #[.int .i64 sz, .int .i64 st, .int .i64 sq, .int .i64 hd, .int .i64 us] 23 (0, 0))) := (h12.block _ (by omega) (by omega)).trans HB11.out
  have s12 := h12.size
  have VS12 : Hid (OView w12 w2.heap.size w3.heap.size (.slice sa sl sc) T) := VS11.out.chg h12 (by omega)
  have VM12 := o12.look (by rw [cnt2_mkOs]; omega)
  clear o12 HG11
  clear h12 HA11 HB11 VS11
  go_wp2_with fail
  refine (heldO_calls _ T 1 (by omega) VM12).mono ?_
  rintro e w13 ⟨rfl, h13⟩
  have h13 := h13.chg 0 0
  have HA13 : Hid (Chg 0 0 w w13) := HA12.out.trans h13
  have HB13 : Hid (w13.heap[w.heap.size]? = some (.cells #[.int .i64 sz, .int .i64 st, .int .i64 sq, .int .i64 hd, .int .i64 us] 23 (0, 0))) := (h13.block _ (by omega) (by omega)).trans HB12.out
  have s13 := h13.size
  have VS13 : Hid (OView w13 w2.heap.size w3.heap.size (.slice sa sl sc) T) := VS12.out.chg h13 (by omega)
  have hk0 : ¬ (((1 + cnt2 T : Nat) : Int) < 0) := by omega
  have hne : (((1 + cnt2 T : Nat) : Int) != ((1 + cnt2 T : Nat) : Int)) = false := by simp
  clear h13 HA12 HB12 VS12 VM12
  obtain ⟨q0, q1, q2, q3, q4⟩ := five_cells HB13.out
  go_wp2_with fail
  clear q0 q1 q2 q3 q4
  clear hk0 hne
  refine (toLog_calls _ sz st sq hd us).mono ?_
  rintro e w14 ⟨rfl, h14⟩
  have HA14 : Hid (Chg 0 0 w w14) := HA13.out.trans h14
  have HB14 : Hid (w14.heap[w.heap.size]? = some (.cells #[.int .i64 sz, .int .i64 st, .int .i64 sq, .int .i64 hd, .int .i64 us] 23 (0, 0))) := (h14.block _ (by omega) (by omega)).trans HB13.out
  have s14 := h14.size
  have VS14 : Hid (OView w14 w2.heap.size w3.heap.size (.slice sa sl sc) T) := VS13.out.chg h14 (by omega)
  clear h14 HA13 HB13 VS13
  go_wp2_with fail
  refine (toHomeS_calls _ hcnt (V0.out.chg HA14.out (by omega))).mono ?_
  rintro e w15 ⟨g3, rfl, ⟨c3, d3, o3⟩, h15⟩
  have HA15 : Hid (Chg 0 0 w w15) := HA14.out.trans h15
  have HB15 : Hid (w15.heap[w.heap.size]? = some (.cells #[.int .i64 sz, .int .i64 st, .int .i64 sq, .int .i64 hd, .int .i64 us] 23 (0, 0))) := (h15.block _ (by omega) (by omega)).trans HB14.out
  have s15 := h15.size
  have VS15 : Hid (OView w15 w2.heap.size w3.heap.size (.slice sa sl sc) T) := VS14.out.chg h15 (by omega)
  have VX15 : Hid (PView w15 w14.heap.size w15.heap.size (.slice (some ⟨g3, 0, none⟩) ps.length ps.length) ps) := o3.vwH (by omega) (fun i hi => by have := cnt_data hi; omega)
  clear o3
  clear h15 HA14 HB14 VS14
  go_wp2_with fail
  refine (HI.out _ HA15.out _ _ _ VX15.out).mono ?_
  rintro e w16 ⟨vh, rfl, ⟨ch, dh, oh⟩, h16⟩
  have HA16 : Hid (Chg 0 0 w w16) := HA15.out.trans h16
  have HB16 : Hid (w16.heap[w.heap.size]? = some (.cells #[.int .i64 sz, .int .i64 st, .int .i64 sq, .int .i64 hd, .int .i64 us] 23 (0, 0))) := (h16.block _ (by omega) (by omega)).trans HB15.out
  have s16 := h16.size
  have VS16 : Hid (OView w16 w2.heap.size w3.heap.size (.slice sa sl sc) T) := VS15.out.chg h16 (by omega)
  have VH16 : Hid (OView w16 w15.heap.size w16.heap.size vh T) := oh.look (by omega)
  obtain ⟨ha, hl', hc', rfl⟩ := row_slice oh.row
  clear oh
  clear h16 HA15 HB15 VS15
  go_wp2_with fail
  refine (eqOpS_calls _ VH16.out VS16.out).mono ?_
  rintro e w17 ⟨rfl, h17⟩
  have HA17 : Hid (Chg 0 0 w w17) := HA16.out.trans h17
  have HB17 : Hid (w17.heap[w.heap.size]? = some (.cells #[.int .i64 sz, .int .i64 st, .int .i64 sq, .int .i64 hd, .int .i64 us] 23 (0, 0))) := (h17.block _ (by omega) (by omega)).trans HB16.out
  have s17 := h17.size
  have VS17 : Hid (OView w17 w2.heap.size w3.heap.size (.slice sa sl sc) T) := VS16.out.chg h17 (by omega)
  clear h17 HA16 HB16 VS16
  go_wp2
  go_ret
  exact ⟨rfl, HA17.out.below (by omega)⟩

/-- What the row lists. -/
abbrev lt : List (String × DataW Unit) := Rows.fnExactCheckpointOpsRow.laid

theorem magic_of_row {W : World} (h : laidMetH Tryz.prog lt W) : W.cell? ⟨0, 0, none⟩ = some (.int .u8 106) ∧ W.cell? ⟨0, 1, none⟩ = some (.int .u8 108) ∧ W.cell? ⟨0, 2, none⟩ = some (.int .u8 111) ∧ W.cell? ⟨0, 3, none⟩ = some (.int .u8 103) := by
  have h' : laidMet Tryz.prog [("loop.example/s01525/impl.journalMagic", Rows.laid_loop_example_s01525_impl_journalMagic)] W ∧ handlesMet Tryz.prog [("errors.errorType", Rows.laid_errors_errorType)] W := h
  exact magic_of_laid h'.1

/-- A world that meets the condition. -/
def laidWorld (p : Program) (os : Os) : World :=
  let w0 := World.holding p os ⟨#[], #[], []⟩
  { w0 with heap := (w0.heap.modify 0 fun
      | .cells _ t frozen => .cells #[.int .u8 106, .int .u8 108, .int .u8 111, .int .u8 103] t frozen
      | o => o).modify 1 fun
      | .cells _ t frozen => .cells #[.iface 103 (.agg #[.pointer (some ⟨3, 78, none⟩)])] t frozen
      | o => o }

theorem laidWorld_met (os : Os) (args : Array Value) : laidMetH Tryz.prog lt ((laidWorld Tryz.prog os).forCall (fun _ _ => 0) ⟨#[], args, []⟩).memory :=
  laidMetH_of_parts (laidMet_of_run (ps := [.cell 0 0, .cell 0 1, .cell 0 2, .cell 0 3]) 8 (by kernel_rfl) (by kernel_rfl) (by kernel_rfl)) (by kernel_rfl)

set_option maxRecDepth 100000 in
theorem lawCkpt_lifted (os : Os) (started : os.Started) (H : Type) (enc : TypeId × Value → H) :
    ReturnsInHanded {} Tryz.checked os 3 .any (fun w args => (Rows.fnExactCheckpointOpsSpec.pre enc Tryz.prog Tryz.f3 [] false w args ∧ laidMetH Tryz.prog lt w) ∧ sizedMet enc Tryz.prog Tryz.f3 (OpenSpec.ofChange Rows.fnExactCheckpointOpsSpec) false w args)
      (Rows.fnExactCheckpointOpsSpec.post enc Tryz.prog Tryz.f3 false true false false) := by
  refine returnsInHanded_of_change_and (C := Tryz.checked) (X := fun w _ => laidMetH Tryz.prog lt w) (fun _ _ _ hh h => h.of_heap hh) own started (by kernel_rfl) Tryz.func3
    (ChangeSpec.witness_at (enc := enc) (C := Tryz.checked) (os := os) (X := fun w _ => laidMetH Tryz.prog lt w) false (laidWorld Tryz.prog os) #[.agg #[.int .i64 0, .int .i64 0, .int .i64 0, .int .i64 0, .int .i64 0], .slice none 0 0] 8 rfl (by kernel_rfl) (by kernel_rfl) (by kernel_rfl) (by kernel_rfl) (by kernel_rfl) (laidWorld_met os _)) ?_
  intro W base args ds gs before hval0 hW _ _ hL _
  have hval : ∀ (j : Nat) t v, Tryz.f3.params[j]? = some t → args[j]? = some v → Value.okWide Tryz.prog W .any base t v := hval0
  have hW' := hW
  obtain ⟨p, q, hA0, hV0, rfl, hfz, hnd⟩ := hW
  have hA : DataW.TrodAll enc Tryz.prog W 0 (fun _ => true) true Tryz.f3.params.toList args.toList ds p := hA0
  rw [Tryz.params3] at hA hval
  obtain ⟨v0, vs0, d0, ds0, p0, q0, hargs, rfl, rfl, h0, r0⟩ := trodAll_cons hA
  obtain ⟨v1, vs1, d1, ds1, p1, q1, rfl, rfl, rfl, h1, r1⟩ := trodAll_cons r0
  obtain ⟨rfl, rfl, rfl⟩ := trodAll_nil r1
  obtain rfl : args = #[v0, v1] := by cases args; simp_all
  have k0 := h0
  have k1 := h1
  have lt0 : ∀ x ∈ p0, x.block < W.heap.size := by obtain ⟨m, hm⟩ := k0; exact DataW.trod_lt m _ _ _ hm
  have lt1 : ∀ x ∈ p1, x.block < W.heap.size := by obtain ⟨m, hm⟩ := k1; exact DataW.trod_lt m _ _ _ hm
  obtain ⟨ka, kl, kcp, rfl⟩ := okWide_slice Tryz.underlying24 (hval 1 24 v1 rfl rfl)
  obtain ⟨fm, hfm⟩ := h1
  obtain ⟨ps, hps⟩ := pview_of_trod Tryz.underlying24 Tryz.underlying40 (by kernel_rfl) rfl rfl rfl rfl (by kernel_rfl) (by kernel_rfl) Tryz.underlying2 Tryz.underlying38 Tryz.underlying5 (by kernel_rfl) hfm
  obtain ⟨sz, st, sq, hd, us, rfl⟩ := log_of_trod (hval 0 23 v0 rfl rfl) h0
  obtain ⟨m0, m1, m2, m3⟩ := magic_of_row hL
  obtain ⟨g1, rfl⟩ : ∃ g1, gs = [g1] := by
    match gs, hV0 with
    | [g1], _ => exact ⟨g1, rfl⟩
  clear hA0 hval0
  refine (lawCkpt_walk W sz st sq hd us hps m0 m1 m2 m3).mono fun e W' ⟨he, bel⟩ => ?_
  subst he
  exact ⟨_, rfl, _, _, _, [], _, _, hW', trodAll_mk1 (shut_bool Tryz.underlying4 _), (trodAll_cons_mk (Below.trod laidOut (by kernel_rfl) (of_decide_eq_true (by kernel_rfl)) k0 bel lt0) (trodAll_cons_mk (Below.trod laidOut (by kernel_rfl) (of_decide_eq_true (by kernel_rfl)) k1 bel lt1) trodAll_mk0)), Below.trodVars laidOut bel (by kernel_rfl) hV0, bel.frame _, fun h => by cases h⟩

theorem fnExactCheckpointOps_row : Rows.FnExactCheckpointOpsSaid :=
  OpenClaim.holds_of_wide 3 Tryz.f3 rfl rfl rfl rfl rfl rfl rfl ⟨rfl, rfl, rfl, rfl, rfl⟩ rfl rfl rfl rfl rfl (by kernel_rfl) Tryz.func3 (by kernel_rfl)
    (of_decide_eq_true (by kernel_rfl)) (by unfold Func.isWrapper; first | (rw [if_pos (by decide +kernel)]; kernel_rfl) | (rw [if_neg (by decide +kernel)]; exact ⟨rfl, rfl⟩))
    (fun os started H enc _ => lawCkpt_lifted os started H enc)
#print axioms fnExactCheckpointOps_row
end Go.Proofs.YtkkbaedlfijlmaaGreatDoor

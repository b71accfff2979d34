/- The law on TailOps; its row. -/
import Derived.Test.YtkegadjdlkfabaaGreatDoorTailSpec
import Derived.Test.YtkegadjdlkfabaaGreatDoorEqB
import Derived.Test.YtkegadjdlkfabaaGreatDoorLaidG
namespace Go.Proofs.YtkegadjdlkfabaaGreatDoor
open Go.ChangeShapes Go.WideShapes Go.ChangeAt Go.RowKit

theorem tailO_cnt (sz st sq hd us : Int) : cnt2 (tailO sz st sq hd us) ≤ 1000 := by
  unfold tailO
  split
  · rename_i h
    simp [cnt2, supL_64 (okS_of_valid h.1)]
  · simp [cnt2]

set_option maxRecDepth 20000 in
set_option maxHeartbeats 4000000 in
theorem lawTailOps_walk (w : World) (sz st sq hd us : Int)
    (m0 : w.cell? ⟨0, 0, none⟩ = some (.int .u8 106)) (m1 : w.cell? ⟨0, 1, none⟩ = some (.int .u8 108)) (m2 : w.cell? ⟨0, 2, none⟩ = some (.int .u8 111)) (m3 : w.cell? ⟨0, 3, none⟩ = some (.int .u8 103)) :
    Calls Tryz.prog 3 #[.agg #[.int .i64 sz, .int .i64 st, .int .i64 sq, .int .i64 hd, .int .i64 us]] w fun e w' => e = .returned (.bool true) ∧ Below w.heap.size w w' := by
  have HS : Hid (∀ w, Calls Tryz.prog 4 #[.agg #[.int .i64 sz, .int .i64 st, .int .i64 sq, .int .i64 hd, .int .i64 us]] w fun e w' => ∃ v, e = .returned v ∧ (∃ cells dvs, OwnOx w' w.heap.size 34 5 v (tailO sz st sq hd us) cells dvs) ∧ Chg 0 0 w w') := fun w => specTail_calls w sz st sq hd us
  have HI : Hid (∀ w', Chg 0 0 w w' → Calls Tryz.prog 6 #[.agg #[.int .i64 sz, .int .i64 st, .int .i64 sq, .int .i64 hd, .int .i64 us]] w' fun e w'' => ∃ v, e = .returned v ∧ (∃ cells dvs, OwnOx w'' w'.heap.size 34 5 v (tailO sz st sq hd us) cells dvs) ∧ Chg 0 0 w' w'') := fun w' h => implTail_calls w' sz st sq hd us (h.cell m0 (by omega)) (h.cell m1 (by omega)) (h.cell m2 (by omega)) (h.cell m3 (by omega))
  have hcn := tailO_cnt sz st sq hd us
  clear m0 m1 m2 m3
  generalize tailO sz st sq hd us = T at *
  have hA : Chg 0 0 w (w.alloc (.cells #[.int .i64 sz, .int .i64 st, .int .i64 sq, .int .i64 hd, .int .i64 us] 23)) := Chg.alloc (Chg.refl 0 0 w) _
  have B0 := heap_new w (.cells #[.int .i64 sz, .int .i64 st, .int .i64 sq, .int .i64 hd, .int .i64 us] 23)
  have s0 : (w.alloc (.cells #[.int .i64 sz, .int .i64 st, .int .i64 sq, .int .i64 hd, .int .i64 us] 23)).heap.size = w.heap.size + 1 := by simp
  have HB : Hid ((w.alloc (.cells #[.int .i64 sz, .int .i64 st, .int .i64 sq, .int .i64 hd, .int .i64 us] 23)).heap[w.heap.size]? = some (.cells #[.int .i64 sz, .int .i64 st, .int .i64 sq, .int .i64 hd, .int .i64 us] 23 (0, 0))) := B0
  have HA : Hid (Chg 0 0 w (w.alloc (.cells #[.int .i64 sz, .int .i64 st, .int .i64 sq, .int .i64 hd, .int .i64 us] 23))) := hA
  obtain ⟨q0, q1, q2, q3, q4⟩ := five_cells B0
  clear hA B0
  go_enter Tryz.func3, Tryz.ntmps3
  go_wp2_with fail
  generalize w.alloc (.cells #[.int .i64 sz, .int .i64 st, .int .i64 sq, .int .i64 hd, .int .i64 us] 23) = w0 at *
  clear q0 q1 q2 q3 q4
  refine (toLog_calls _ sz st sq hd us).mono ?_
  rintro e w1 ⟨rfl, h1⟩
  have HA1 : Hid (Chg 0 0 w w1) := HA.out.trans h1
  have HB1 : Hid (w1.heap[w.heap.size]? = some (.cells #[.int .i64 sz, .int .i64 st, .int .i64 sq, .int .i64 hd, .int .i64 us] 23 (0, 0))) := (h1.block _ (by omega) (by omega)).trans HB.out
  have s1 := h1.size
  clear h1 HA HB
  go_wp2_with fail
  refine (HS.out _).mono ?_
  rintro e w2 ⟨vs, rfl, ⟨cs, ds, os⟩, h2⟩
  have HA2 : Hid (Chg 0 0 w w2) := HA1.out.trans h2
  have HB2 : Hid (w2.heap[w.heap.size]? = some (.cells #[.int .i64 sz, .int .i64 st, .int .i64 sq, .int .i64 hd, .int .i64 us] 23 (0, 0))) := (h2.block _ (by omega) (by omega)).trans HB1.out
  have s2 := h2.size
  have HV2 : Hid (OView w2 w1.heap.size w2.heap.size vs T) := os.look (by omega)
  obtain ⟨sa, sl, sc, rfl⟩ := row_slice os.row
  obtain ⟨q0, q1, q2, q3, q4⟩ := five_cells HB2.out
  clear h2 HA1 HB1 os
  go_wp2_with fail
  clear q0 q1 q2 q3 q4
  refine (toLog_calls _ sz st sq hd us).mono ?_
  rintro e w3 ⟨rfl, h3⟩
  have HA3 : Hid (Chg 0 0 w w3) := HA2.out.trans h3
  have HB3 : Hid (w3.heap[w.heap.size]? = some (.cells #[.int .i64 sz, .int .i64 st, .int .i64 sq, .int .i64 hd, .int .i64 us] 23 (0, 0))) := (h3.block _ (by omega) (by omega)).trans HB2.out
  have HV3 : Hid (OView w3 w1.heap.size w2.heap.size (.slice sa sl sc) T) := HV2.out.chg h3 (by omega)
  have s3 := h3.size
  clear h3 HA2 HB2 HV2
  go_wp2_with fail
  refine (HI.out _ HA3.out).mono ?_
  rintro e w4 ⟨vg, rfl, ⟨cg, dg, og⟩, h4⟩
  have HA4 : Hid (Chg 0 0 w w4) := HA3.out.trans h4
  have HB4 : Hid (w4.heap[w.heap.size]? = some (.cells #[.int .i64 sz, .int .i64 st, .int .i64 sq, .int .i64 hd, .int .i64 us] 23 (0, 0))) := (h4.block _ (by omega) (by omega)).trans HB3.out
  have v4 := HV3.out.chg h4 (by omega)
  have s4 := h4.size
  have vg4 := og.look (by omega)
  obtain ⟨ga, gl, gc, rfl⟩ := row_slice og.row
  have HG4 : Hid (OwnOx w4 w3.heap.size 34 5 (.slice ga gl gc) T cg dg) := og
  clear h4 HA3 HB3 HV3 og
  go_wp2_with fail
  refine (eqOpS_calls _ vg4 v4).mono ?_
  rintro e w5 ⟨rfl, h5⟩
  have HA5 : Hid (Chg 0 0 w w5) := HA4.out.trans h5
  have HB5 : Hid (w5.heap[w.heap.size]? = some (.cells #[.int .i64 sz, .int .i64 st, .int .i64 sq, .int .i64 hd, .int .i64 us] 23 (0, 0))) := (h5.block _ (by omega) (by omega)).trans HB4.out
  have HV5 : Hid (OView w5 w1.heap.size w2.heap.size (.slice sa sl sc) T) := v4.chg h5 (by omega)
  have og5 := HG4.out.chg h5 (by intro g _; omega) (by intro i g _ _; omega)
  have s5 := h5.size
  have lt5 := HG4.out.lt'
  have dlt5 := HG4.out.dlt'
  clear h5 HA4 HB4 v4 vg4 HG4
  go_wp2_with fail
  refine (markO_calls _ _ _ T 1 w3.heap.size w4.heap.size (by have := cnt2_ge T; omega) (by omega) cg dg og5 lt5 dlt5).mono ?_
  rintro e w6 ⟨rfl, ⟨c6, o6⟩, h6⟩
  have HA6 : Hid (Chg 0 0 w w6) := HA5.out.step h6 (by have := HA5.out.size; omega)
  have HB6 : Hid (w6.heap[w.heap.size]? = some (.cells #[.int .i64 sz, .int .i64 st, .int .i64 sq, .int .i64 hd, .int .i64 us] 23 (0, 0))) := (h6.block _ (by omega) (by omega)).trans HB5.out
  have HV6 : Hid (OView w6 w1.heap.size w2.heap.size (.slice sa sl sc) T) := HV5.out.chg h6 (by omega)
  have v6 := o6.look (by rw [cnt2_mkOs]; omega)
  have s6 := h6.size
  clear h6 HA5 HB5 HV5 o6 og5 lt5 dlt5
  go_wp2_with fail
  refine (heldO_calls _ T 1 (by omega) v6).mono ?_
  rintro e w7 ⟨rfl, h7⟩
  have h7 := h7.chg 0 0
  have HA7 : Hid (Chg 0 0 w w7) := HA6.out.trans h7
  have HB7 : Hid (w7.heap[w.heap.size]? = some (.cells #[.int .i64 sz, .int .i64 st, .int .i64 sq, .int .i64 hd, .int .i64 us] 23 (0, 0))) := (h7.block _ (by omega) (by omega)).trans HB6.out
  have HV7 : Hid (OView w7 w1.heap.size w2.heap.size (.slice sa sl sc) T) := HV6.out.chg h7 (by omega)
  have s7 := h7.size
  obtain ⟨q0, q1, q2, q3, q4⟩ := five_cells HB7.out
  have hk0 : ¬ (((1 + cnt2 T : Nat) : Int) < 0) := by omega
  have hne : (((1 + cnt2 T : Nat) : Int) != ((1 + cnt2 T : Nat) : Int)) = false := by simp
  clear h7 HA6 HB6 HV6 v6
  go_wp2_with fail
  clear q0 q1 q2 q3 q4
  refine (toLog_calls _ sz st sq hd us).mono ?_
  rintro e w8 ⟨rfl, h8⟩
  have HA8 : Hid (Chg 0 0 w w8) := HA7.out.trans h8
  have HV8 : Hid (OView w8 w1.heap.size w2.heap.size (.slice sa sl sc) T) := HV7.out.chg h8 (by omega)
  clear h8 HA7 HB7 HV7 hk0 hne
  go_wp2_with fail
  refine (HI.out _ HA8.out).mono ?_
  rintro e w9 ⟨vh, rfl, ⟨ch, dh, oh⟩, h9⟩
  have HA9 : Hid (Chg 0 0 w w9) := HA8.out.trans h9
  have v9 := HV8.out.chg h9 (by omega)
  have vh9 := oh.look (by omega)
  obtain ⟨ha, hl, hc, rfl⟩ := row_slice oh.row
  clear h9 HA8 HV8 oh
  go_wp2_with fail
  refine (eqOpS_calls _ vh9 v9).mono ?_
  rintro e w10 ⟨rfl, h10⟩
  have HA10 : Hid (Chg 0 0 w w10) := HA9.out.trans h10
  clear h10 HA9 v9 vh9
  go_wp2
  go_ret
  exact ⟨rfl, HA10.out.below (by omega)⟩

/-- What the row lists. -/
abbrev lt : List (String × DataW Unit) := Rows.fnExactTailOpsRow.laid

theorem magic_of_row {W : World} (h : laidMetH Tryz.prog lt W) : W.cell? ⟨0, 0, none⟩ = some (.int .u8 106) ∧ W.cell? ⟨0, 1, none⟩ = some (.int .u8 108) ∧ W.cell? ⟨0, 2, none⟩ = some (.int .u8 111) ∧ W.cell? ⟨0, 3, none⟩ = some (.int .u8 103) := by
  have h' : laidMet Tryz.prog [("loop.example/s01525/impl.journalMagic", Rows.laid_loop_example_s01525_impl_journalMagic)] W ∧ handlesMet Tryz.prog [("errors.errorType", Rows.laid_errors_errorType)] W := h
  exact magic_of_laid h'.1

/-- A world that meets the condition. -/
def laidWorld (p : Program) (os : Os) : World :=
  let w0 := World.holding p os ⟨#[], #[], []⟩
  { w0 with heap := (w0.heap.modify 0 fun
      | .cells _ t frozen => .cells #[.int .u8 106, .int .u8 108, .int .u8 111, .int .u8 103] t frozen
      | o => o).modify 1 fun
      | .cells _ t frozen => .cells #[.iface 89 (.agg #[.pointer (some ⟨3, 64, none⟩)])] t frozen
      | o => o }

theorem laidWorld_met (os : Os) (args : Array Value) : laidMetH Tryz.prog lt ((laidWorld Tryz.prog os).forCall (fun _ _ => 0) ⟨#[], args, []⟩).memory :=
  laidMetH_of_parts (laidMet_of_run (ps := [.cell 0 0, .cell 0 1, .cell 0 2, .cell 0 3]) 8 (by kernel_rfl) (by kernel_rfl) (by kernel_rfl)) (by kernel_rfl)

set_option maxRecDepth 100000 in
theorem lawTailOps_lifted (os : Os) (started : os.Started) (H : Type) (enc : TypeId × Value → H) :
    ReturnsInHanded {} Tryz.checked os 3 .any (fun w args => (Rows.fnExactTailOpsSpec.pre enc Tryz.prog Tryz.f3 [] false w args ∧ laidMetH Tryz.prog lt w) ∧ sizedMet enc Tryz.prog Tryz.f3 (OpenSpec.ofChange Rows.fnExactTailOpsSpec) false w args)
      (Rows.fnExactTailOpsSpec.post enc Tryz.prog Tryz.f3 false true false false) := by
  refine returnsInHanded_of_change_and (C := Tryz.checked) (X := fun w _ => laidMetH Tryz.prog lt w) (fun _ _ _ hh h => h.of_heap hh) own started (by kernel_rfl) Tryz.func3
    (ChangeSpec.witness_at (enc := enc) (C := Tryz.checked) (os := os) (X := fun w _ => laidMetH Tryz.prog lt w) false (laidWorld Tryz.prog os) #[.agg #[.int .i64 0, .int .i64 0, .int .i64 0, .int .i64 0, .int .i64 0]] 8 rfl (by kernel_rfl) (by kernel_rfl) (by kernel_rfl) (by kernel_rfl) (by kernel_rfl) (laidWorld_met os _)) ?_
  intro W base args ds gs before hval0 hW _ _ hL _
  have hval : ∀ (j : Nat) t v, Tryz.f3.params[j]? = some t → args[j]? = some v → Value.okWide Tryz.prog W .any base t v := hval0
  have hW' := hW
  obtain ⟨p, q, hA0, hV0, rfl, hfz, hnd⟩ := hW
  have hA : DataW.TrodAll enc Tryz.prog W 0 (fun _ => true) true Tryz.f3.params.toList args.toList ds p := hA0
  rw [Tryz.params3] at hA hval
  obtain ⟨v0, vs0, d0, ds0, p0, q0, hargs, rfl, rfl, h0, r0⟩ := trodAll_cons hA
  obtain ⟨rfl, rfl, rfl⟩ := trodAll_nil r0
  obtain rfl : args = #[v0] := by cases args; simp_all
  have k0 := h0
  have lt0 : ∀ x ∈ p0, x.block < W.heap.size := by obtain ⟨m, hm⟩ := k0; exact DataW.trod_lt m _ _ _ hm
  obtain ⟨sz, st, sq, hd, us, rfl⟩ := log_of_trod (hval 0 23 v0 rfl rfl) h0
  obtain ⟨m0, m1, m2, m3⟩ := magic_of_row hL
  obtain ⟨g1, rfl⟩ : ∃ g1, gs = [g1] := by
    match gs, hV0 with
    | [g1], _ => exact ⟨g1, rfl⟩
  clear hA0 hval0
  refine (lawTailOps_walk W sz st sq hd us m0 m1 m2 m3).mono fun e W' ⟨he, bel⟩ => ?_
  subst he
  exact ⟨_, rfl, _, _, _, [], _, _, hW', trodAll_mk1 (shut_bool Tryz.underlying4 _), (trodAll_cons_mk (Below.trod laidOut (by kernel_rfl) (of_decide_eq_true (by kernel_rfl)) k0 bel lt0) trodAll_mk0), Below.trodVars laidOut bel (by kernel_rfl) hV0, bel.frame _, fun h => by cases h⟩

theorem fnExactTailOps_row : Rows.FnExactTailOpsSaid :=
  OpenClaim.holds_of_wide 3 Tryz.f3 rfl rfl rfl rfl rfl rfl rfl ⟨rfl, rfl, rfl, rfl, rfl⟩ rfl rfl rfl rfl rfl (by kernel_rfl) Tryz.func3 (by kernel_rfl)
    (of_decide_eq_true (by kernel_rfl)) (by unfold Func.isWrapper; first | (rw [if_pos (by decide +kernel)]; kernel_rfl) | (rw [if_neg (by decide +kernel)]; exact ⟨rfl, rfl⟩))
    (fun os started H enc _ => lawTailOps_lifted os started H enc)
#print axioms fnExactTailOps_row
end Go.Proofs.YtkegadjdlkfabaaGreatDoor

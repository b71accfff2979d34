/- The law on TxnLength; its row. (made by tools/mklawtxl.py) -/
import Derived.Test.YteligghapkleaaaGreatDoorOpenTxn
import Derived.Test.YteligghapkleaaaGreatDoorLaidMag
import Derived.Deep.RegionWith
namespace Go.Proofs.YteligghapkleaaaGreatDoor
open Go.ChangeShapes Go.WideShapes Go.ChangeAt Go.RowKit

set_option maxRecDepth 20000 in
set_option maxHeartbeats 2000000 in
theorem lawTxnLength_walk (w : World) {a : Value} {t : Tx} (hby : ∀ x ∈ t.homes, Byt x.2) (hM : Mag w) (h1 : TView w 0 w.heap.size a t) :
    Calls Tryz.prog 3 #[a] w fun e w' => e = .returned (.bool true) ∧ Below w.heap.size w w' := by
  have T0 := h1
  have HBy : Hid (∀ x ∈ t.homes, Byt x.2) := hby
  have HMg : Hid (Mag w) := hM
  clear hby hM
  obtain ⟨hv, rv, rfl, p1, v1⟩ := h1
  obtain ⟨po, pcap, rfl⟩ := p1.slice
  obtain ⟨ao, cap, rfl⟩ := v1.slice
  have HT : Hid (TView w 0 w.heap.size (.agg #[.int .i64 t.seq, .slice po t.homes.length pcap, .slice ao t.revs.length cap]) t) := T0
  have HA : Hid (Chg 0 0 w (w.alloc (.cells #[.int .i64 t.seq, .slice po t.homes.length pcap, .slice ao t.revs.length cap] 25))) := Chg.alloc (Chg.refl 0 0 w) _
  have s0 : (w.alloc (.cells #[.int .i64 t.seq, .slice po t.homes.length pcap, .slice ao t.revs.length cap] 25)).heap.size = w.heap.size + 1 := by simp
  have HB : Hid ((w.alloc (.cells #[.int .i64 t.seq, .slice po t.homes.length pcap, .slice ao t.revs.length cap] 25)).heap[w.heap.size]? = some (.cells #[.int .i64 t.seq, .slice po t.homes.length pcap, .slice ao t.revs.length cap] 25 (0, 0))) := heap_new w _
  have hN := szTxn_calls (w.alloc (.cells #[.int .i64 t.seq, .slice po t.homes.length pcap, .slice ao t.revs.length cap] 25)) t 1048576 (by omega) (HT.out.chg HA.out (by omega))
  clear T0 p1 v1
  go_enter Tryz.func3, Tryz.ntmps3
  go_wp2_with fail
  generalize w.alloc (.cells #[.int .i64 t.seq, .slice po t.homes.length pcap, .slice ao t.revs.length cap] 25) = w0 at *
  refine hN.mono ?_
  rintro e w1 ⟨rfl, h1⟩
  have HA1 : Hid (Chg 0 0 w w1) := HA.out.trans h1
  have HB1 : Hid (w1.heap[w.heap.size]? = some (.cells #[.int .i64 t.seq, .slice po t.homes.length pcap, .slice ao t.revs.length cap] 25 (0, 0))) := (h1.block _ (by omega) (by omega)).trans HB.out
  have s1 := h1.size
  clear hN h1
  by_cases hl : cntT t ≤ 1048576
  case neg =>
    rw [lft_neg hl]
    clear hl
    go_wp2
    go_ret
    exact ⟨rfl, HA1.out.below (by omega)⟩
  rw [lft_pos hl]
  have Hl : Hid (cntT t ≤ 1048576) := hl
  have hp : ¬ ((1048576 - cntT t : Nat) : Int) < 0 := by omega
  clear hl
  generalize 1048576 - cntT t = lf at *
  obtain ⟨⟨k0, k1, k2⟩, _⟩ := tri HB1.out
  have hN := toTxn_calls w1 Hl.out (HT.out.chg HA1.out (by omega))
  go_wp2_with fail
  refine hN.mono ?_
  rintro e w2 ⟨xv, rfl, tv, h2⟩
  have HA2 : Hid (Chg 0 0 w w2) := HA1.out.trans h2
  have HB2 : Hid (w2.heap[w.heap.size]? = some (.cells #[.int .i64 t.seq, .slice po t.homes.length pcap, .slice ao t.revs.length cap] 25 (0, 0))) := (h2.block _ (by omega) (by omega)).trans HB1.out
  have s2 := h2.size
  have hN2 := specTxnLength_calls w2 Hl.out (by omega) HBy.out tv
  clear hN tv h2 k0 k1 k2
  go_wp2_with fail
  refine hN2.mono ?_
  rintro e w3 ⟨rfl, h3⟩
  have HA3 : Hid (Chg 0 0 w w3) := HA2.out.trans h3
  have HB3 : Hid (w3.heap[w.heap.size]? = some (.cells #[.int .i64 t.seq, .slice po t.homes.length pcap, .slice ao t.revs.length cap] 25 (0, 0))) := (h3.block _ (by omega) (by omega)).trans HB2.out
  have s3 := h3.size
  obtain ⟨bv, Hbv⟩ : ∃ b : Int, Hid (b = ((TL t).length : Int)) := ⟨_, rfl⟩
  rw [← Hbv.out]
  clear hN2 h3
  obtain ⟨⟨k0, k1, k2⟩, _⟩ := tri HB3.out
  have hN := toTxn_calls w3 Hl.out (HT.out.chg HA3.out (by omega))
  go_wp2_with fail
  refine hN.mono ?_
  rintro e w4 ⟨xv, rfl, tv, h4⟩
  have s4 := h4.size
  obtain ⟨xh, xr, rfl, xp, xw⟩ := id tv
  obtain ⟨xo, xcap, rfl⟩ := xp.slice
  obtain ⟨yo, ycap, rfl⟩ := xw.slice
  have cB : Chg 0 0 w4 (w4.alloc (.cells #[.int .i64 t.seq, .slice xo t.homes.length xcap, .slice yo t.revs.length ycap] 30)) := Chg.alloc (Chg.refl 0 0 w4) _
  have HA4 : Hid (Chg 0 0 w (w4.alloc (.cells #[.int .i64 t.seq, .slice xo t.homes.length xcap, .slice yo t.revs.length ycap] 30))) := (HA3.out.trans h4).trans cB
  have HB4 : Hid ((w4.alloc (.cells #[.int .i64 t.seq, .slice xo t.homes.length xcap, .slice yo t.revs.length ycap] 30)).heap[w.heap.size]? = some (.cells #[.int .i64 t.seq, .slice po t.homes.length pcap, .slice ao t.revs.length cap] 25 (0, 0))) := ((h4.trans cB).block _ (by omega) (by omega)).trans HB3.out
  have HX4 : Hid ((w4.alloc (.cells #[.int .i64 t.seq, .slice xo t.homes.length xcap, .slice yo t.revs.length ycap] 30)).heap[w4.heap.size]? = some (.cells #[.int .i64 t.seq, .slice xo t.homes.length xcap, .slice yo t.revs.length ycap] 30 (0, 0))) := heap_new w4 _
  have HTX : Hid (TView (w4.alloc (.cells #[.int .i64 t.seq, .slice xo t.homes.length xcap, .slice yo t.revs.length ycap] 30)) w3.heap.size w4.heap.size (.agg #[.int .i64 t.seq, .slice xo t.homes.length xcap, .slice yo t.revs.length ycap]) t) := tv.chg cB (by omega)
  have s5 : (w4.alloc (.cells #[.int .i64 t.seq, .slice xo t.homes.length xcap, .slice yo t.revs.length ycap] 30)).heap.size = w4.heap.size + 1 := by simp
  have hN2 := implTxnLength_calls (w4.alloc (.cells #[.int .i64 t.seq, .slice xo t.homes.length xcap, .slice yo t.revs.length ycap] 30)) Hl.out (by omega) HBy.out (HMg.out.chg HA4.out (by omega)) HTX.out
  rw [← Hbv.out] at hN2
  clear hN tv xp xw h4 k0 k1 k2 cB
  go_wp2_with fail
  generalize w4.alloc (.cells #[.int .i64 t.seq, .slice xo t.homes.length xcap, .slice yo t.revs.length ycap] 30) = w5 at *
  refine hN2.mono ?_
  rintro e w6 ⟨rfl, h6⟩
  have s6 := h6.size
  have HA6 : Hid (Chg 0 0 w w6) := HA4.out.trans h6
  have HB6 : Hid (w6.heap[w.heap.size]? = some (.cells #[.int .i64 t.seq, .slice po t.homes.length pcap, .slice ao t.revs.length cap] 25 (0, 0))) := (h6.block _ (by omega) (by omega)).trans HB4.out
  have HX6 : Hid (w6.heap[w4.heap.size]? = some (.cells #[.int .i64 t.seq, .slice xo t.homes.length xcap, .slice yo t.revs.length ycap] 30 (0, 0))) := (h6.block _ (by omega) (by omega)).trans HX4.out
  have HTX6 : Hid (TView w6 w3.heap.size w4.heap.size (.agg #[.int .i64 t.seq, .slice xo t.homes.length xcap, .slice yo t.revs.length ycap]) t) := HTX.out.chg h6 (by omega)
  have hne : (bv != bv) = false := by simp
  obtain ⟨⟨k0, k1, k2⟩, _⟩ := tri HB6.out
  obtain ⟨⟨x0, x1, x2⟩, _⟩ := tri HX6.out
  have hN := toTxn_calls w6.drew Hl.out (HT.out.chg HA6.out.drew (by omega))
  clear hN2 h6
  go_wp2
  go_region_with (first
    | (go_at_call 6; refine hN.mono ?_; rintro e w7 ⟨zv, rfl, zt, h7⟩; have y0 := h7.cell (show w6.drew.cell? ⟨w4.heap.size, 0, none⟩ = _ from x0) (by omega); have y1 := h7.cell (show w6.drew.cell? ⟨w4.heap.size, 1, none⟩ = _ from x1) (by omega); have y2 := h7.cell (show w6.drew.cell? ⟨w4.heap.size, 2, none⟩ = _ from x2) (by omega))
    | (go_at_call 8; refine (eqTxn_calls _ (HTX6.out.chg ((Chg.drew (Chg.refl 0 0 w6)).trans h7) (by omega)) zt).mono ?_; rintro e w8 ⟨rfl, h8⟩))
  all_goals
    have HA8 : Hid (Chg 0 0 w w8) := (HA6.out.drew.trans h7).trans h8
    clear h7 h8 zt
    go_wp2
    go_ret
    exact ⟨rfl, HA8.out.below (by omega)⟩

/-- What the row lists. -/
abbrev lt : List (String × DataW Unit) := Rows.fnExactTxnLengthRow.laid

theorem mag_of_row {W : World} (h : laidMetH Tryz.prog lt W) : Mag W := by
  have h' : laidMet Tryz.prog [("loop.example/s01525/impl.journalMagic", Rows.laid_loop_example_s01525_impl_journalMagic)] W := h
  exact jourM_of_laid h'

/-- A world that meets the condition. -/
def laidWorld (p : Program) (os : Os) : World :=
  let w0 := World.holding p os ⟨#[], #[], []⟩
  { w0 with heap := w0.heap.modify 0 fun
      | .cells _ t frozen => .cells #[.int .u8 106, .int .u8 108, .int .u8 111, .int .u8 103] t frozen
      | o => o }

theorem laidWorld_met (os : Os) (args : Array Value) : laidMetH Tryz.prog lt ((laidWorld Tryz.prog os).forCall (fun _ _ => 0) ⟨#[], args, []⟩).memory :=
  laidMetH_of_parts (laidMet_of_run (ps := [.cell 0 0, .cell 0 1, .cell 0 2, .cell 0 3]) 8 (by kernel_rfl) (by kernel_rfl) (by kernel_rfl)) (by kernel_rfl)

set_option maxRecDepth 100000 in
theorem lawTxnLength_lifted (os : Os) (started : os.Started) (H : Type) (enc : TypeId × Value → H) :
    ReturnsInHanded {} Tryz.checked os 3 .any (fun w args => (Rows.fnExactTxnLengthSpec.pre enc Tryz.prog Tryz.f3 [] false w args ∧ laidMetH Tryz.prog lt w) ∧ sizedMet enc Tryz.prog Tryz.f3 (OpenSpec.ofChange Rows.fnExactTxnLengthSpec) false w args)
      (Rows.fnExactTxnLengthSpec.post enc Tryz.prog Tryz.f3 false true false false) := by
  refine returnsInHanded_of_change_and (C := Tryz.checked) (X := fun w _ => laidMetH Tryz.prog lt w) (fun _ _ _ hh h => h.of_heap hh) own started (by kernel_rfl) Tryz.func3
    (ChangeSpec.witness_at (enc := enc) (C := Tryz.checked) (os := os) (X := fun w _ => laidMetH Tryz.prog lt w) false (laidWorld Tryz.prog os) #[.agg #[.int .i64 0, .slice none 0 0, .slice none 0 0]] 8 rfl (by kernel_rfl) (by kernel_rfl) (by kernel_rfl) (by kernel_rfl) (by kernel_rfl) (laidWorld_met os _)) ?_
  intro W base args ds gs before hval0 hW _ _ hL _
  have hval : ∀ (j : Nat) t v, Tryz.f3.params[j]? = some t → args[j]? = some v → Value.okWide Tryz.prog W .any base t v := hval0
  have hW' := hW
  obtain ⟨p, q, hA0, hV0, rfl, hfz, hnd⟩ := hW
  have hA : DataW.TrodAll enc Tryz.prog W 0 (fun _ => true) true Tryz.f3.params.toList args.toList ds p := hA0
  rw [Tryz.params3] at hA hval
  obtain ⟨v0, vs0, d0, ds0, p0, q0, hargs, rfl, rfl, h0, r0⟩ := trodAll_cons hA
  obtain ⟨rfl, rfl, rfl⟩ := trodAll_nil r0
  obtain rfl : args = #[v0] := by cases args; simp_all
  have k0 := h0
  have lt0 : ∀ x ∈ p0, x.block < W.heap.size := by obtain ⟨m, hm⟩ := k0; exact DataW.trod_lt m _ _ _ hm
  obtain ⟨t, hT, hBy⟩ := tviewB_of_trod (hval 0 25 v0 rfl rfl) h0
  obtain ⟨g1, rfl⟩ : ∃ g1, gs = [g1] := by
    match gs, hV0 with
    | [g1], _ => exact ⟨g1, rfl⟩
  clear hA0 hval0
  refine (lawTxnLength_walk W hBy (mag_of_row hL) hT).mono fun e W' ⟨he, bel⟩ => ?_
  subst he
  exact ⟨_, rfl, _, _, _, [], _, _, hW', trodAll_mk1 (shut_bool Tryz.underlying4 _), (trodAll_cons_mk (Below.trod laidOut (by kernel_rfl) (of_decide_eq_true (by kernel_rfl)) k0 bel lt0) trodAll_mk0), Below.trodVars laidOut bel (by kernel_rfl) hV0, bel.frame _, fun h => by cases h⟩

theorem fnExactTxnLength_row : Rows.FnExactTxnLengthSaid :=
  OpenClaim.holds_of_wide 3 Tryz.f3 rfl rfl rfl rfl rfl rfl rfl ⟨rfl, rfl, rfl, rfl, rfl⟩ rfl rfl rfl rfl rfl (by kernel_rfl) Tryz.func3 (by kernel_rfl)
    (of_decide_eq_true (by kernel_rfl)) (by unfold Func.isWrapper; first | (rw [if_pos (by decide +kernel)]; kernel_rfl) | (rw [if_neg (by decide +kernel)]; exact ⟨rfl, rfl⟩))
    (fun os started H enc _ => lawTxnLength_lifted os started H enc)
#print axioms fnExactTxnLength_row
end Go.Proofs.YteligghapkleaaaGreatDoor

/- The law on EncodeSuper (made by tools/mklaw_fs.py). -/
import Derived.Test.YtikldohglkjlaaaDoorImplFs
import Derived.Test.YtikldohglkjlaaaDoorLaidSys
import Derived.Test.YtikldohglkjlaaaDoorEqB
import Derived.Test.YtikldohglkjlaaaDoorMarkB
import Derived.Test.YtikldohglkjlaaaDoorOpenGeo
import Derived.Test.YtikldohglkjlaaaDoorOwn
namespace Go.Proofs.YtikldohglkjlaaaDoor
open Go.ChangeShapes Go.WideShapes Go.ChangeAt Go.RowKit

set_option maxRecDepth 20000 in
set_option maxHeartbeats 2000000 in
theorem lawEncodeSuper_walk (w : World) (hm : SysM w) (b l n : Int) :
    Calls Tryd.prog 3 #[geoV b l n] w fun e w' => e = .returned (.bool true) ∧ Below w.heap.size w w' := by
  have hl := encSup_len b l n
  have HS : Hid (∀ w, Calls Tryd.prog 4 #[geoV b l n] w fun e w' => ∃ v, e = .returned v ∧ OwnB w' w.heap.size 5 v (encSup b l n) ∧ Chg 0 0 w w') := fun w => specEncSuper_calls w b l n
  have HI : Hid (∀ W, Chg 0 0 w W → Calls Tryd.prog 6 #[geoV b l n] W fun e w' => ∃ v, e = .returned v ∧ OwnB w' W.heap.size 5 v (encSup b l n) ∧ Chg 0 0 W w') := fun W h => implEncodeSuper_calls W b l n (hm.chg h)
  generalize encSup b l n = X at *
  have hA : Chg 0 0 w (w.alloc (.cells #[.int .i64 b, .int .i64 l, .int .i64 n] 23)) := Chg.alloc (Chg.refl 0 0 w) _
  have B0 := heap_new w (.cells #[.int .i64 b, .int .i64 l, .int .i64 n] 23)
  have s0 : (w.alloc (.cells #[.int .i64 b, .int .i64 l, .int .i64 n] 23)).heap.size = w.heap.size + 1 := by simp
  have HB0 : Hid ((w.alloc (.cells #[.int .i64 b, .int .i64 l, .int .i64 n] 23)).heap[w.heap.size]? = some (.cells #[.int .i64 b, .int .i64 l, .int .i64 n] 23 (0, 0))) := B0
  have HA0 : Hid (Chg 0 0 w (w.alloc (.cells #[.int .i64 b, .int .i64 l, .int .i64 n] 23))) := hA
  clear hA B0
  obtain ⟨q0, q1, q2⟩ := geo3 HB0.out
  go_enter Tryd.func3, Tryd.ntmps3
  go_wp2_with fail
  clear q0 q1 q2
  generalize w.alloc (.cells #[.int .i64 b, .int .i64 l, .int .i64 n] 23) = w0 at *
  refine (toGeometry_calls _ b l n).mono ?_
  rintro e w1 ⟨rfl, h1⟩
  have HA1 : Hid (Chg 0 0 w w1) := HA0.out.trans h1
  have s1 := h1.size
  have HB1 : Hid (w1.heap[w.heap.size]? = some (.cells #[.int .i64 b, .int .i64 l, .int .i64 n] 23 (0, 0))) := (h1.block _ (by omega) (by omega)).trans HB0.out
  clear h1 HA0 HB0
  go_wp2_with fail
  refine (HS.out _).mono ?_
  rintro e w2 ⟨vs, rfl, os, h2⟩
  have HA2 : Hid (Chg 0 0 w w2) := HA1.out.trans h2
  have s2 := h2.size
  have HB2 : Hid (w2.heap[w.heap.size]? = some (.cells #[.int .i64 b, .int .i64 l, .int .i64 n] 23 (0, 0))) := (h2.block _ (by omega) (by omega)).trans HB1.out
  have VS2 : Hid (View w2 w1.heap.size w2.heap.size .u8 vs X) := os.seen (by omega)
  obtain ⟨sa, sl, sc, rfl⟩ := row_slice os
  clear os
  clear h2 HA1 HB1
  obtain ⟨q0, q1, q2⟩ := geo3 HB2.out
  go_wp2_with fail
  clear q0 q1 q2
  refine (toGeometry_calls _ b l n).mono ?_
  rintro e w3 ⟨rfl, h3⟩
  have HA3 : Hid (Chg 0 0 w w3) := HA2.out.trans h3
  have s3 := h3.size
  have HB3 : Hid (w3.heap[w.heap.size]? = some (.cells #[.int .i64 b, .int .i64 l, .int .i64 n] 23 (0, 0))) := (h3.block _ (by omega) (by omega)).trans HB2.out
  have VS3 : Hid (View w3 w1.heap.size w2.heap.size .u8 (.slice sa sl sc) X) := VS2.out.chg h3 (by omega)
  clear h3 HA2 HB2 VS2
  go_wp2_with fail
  refine (HI.out _ HA3.out).mono ?_
  rintro e w4 ⟨vg, rfl, og, h4⟩
  have HA4 : Hid (Chg 0 0 w w4) := HA3.out.trans h4
  have s4 := h4.size
  have HB4 : Hid (w4.heap[w.heap.size]? = some (.cells #[.int .i64 b, .int .i64 l, .int .i64 n] 23 (0, 0))) := (h4.block _ (by omega) (by omega)).trans HB3.out
  have VS4 : Hid (View w4 w1.heap.size w2.heap.size .u8 (.slice sa sl sc) X) := VS3.out.chg h4 (by omega)
  have VG4 : Hid (View w4 w3.heap.size w4.heap.size .u8 vg X) := og.seen (by omega)
  obtain ⟨ga, gl, gc, rfl⟩ := row_slice og
  have HG4 : Hid (OwnB w4 w3.heap.size 5 (.slice ga gl gc) X) := og
  have GB : Hid (∀ g, (Value.slice ga gl gc).ownBlock = some g → w3.heap.size ≤ g ∧ g < w4.heap.size) := fun g hg => og.lt g hg
  clear og
  clear h4 HA3 HB3 VS3
  go_wp2_with fail
  refine (eqByteS_calls _ VG4.out VS4.out).mono ?_
  rintro e w5 ⟨rfl, h5⟩
  have h5 := h5.chg 0 0
  have HA5 : Hid (Chg 0 0 w w5) := HA4.out.trans h5
  have s5 := h5.size
  have HB5 : Hid (w5.heap[w.heap.size]? = some (.cells #[.int .i64 b, .int .i64 l, .int .i64 n] 23 (0, 0))) := (h5.block _ (by omega) (by omega)).trans HB4.out
  have VS5 : Hid (View w5 w1.heap.size w2.heap.size .u8 (.slice sa sl sc) X) := VS4.out.chg h5 (by omega)
  have HG5 : Hid (OwnB w5 w3.heap.size 5 (.slice ga gl gc) X) := HG4.out.chg h5 (fun g hg => by have := (HG4.out.lt g hg); omega)
  clear h5 HA4 HB4 VS4 VG4 HG4
  go_wp2_with fail
  refine (markByteS_calls _ _ _ _ _ 1 w3.heap.size w4.heap.size (by omega) (by omega) HG5.out GB.out).mono ?_
  rintro e w6 ⟨rfl, om, h6, _, _⟩
  have HA6 : Hid (Chg 0 0 w w6) := HA5.out.step h6 (by have := HA5.out.size; omega)
  have s6 := h6.size
  have HB6 : Hid (w6.heap[w.heap.size]? = some (.cells #[.int .i64 b, .int .i64 l, .int .i64 n] 23 (0, 0))) := (h6.block _ (by omega) (by omega)).trans HB5.out
  have VS6 : Hid (View w6 w1.heap.size w2.heap.size .u8 (.slice sa sl sc) X) := VS5.out.chg h6 (by omega)
  have VM6 : Hid (View w6 w3.heap.size w6.heap.size .u8 (.slice ga gl gc) (marks 1 X.length)) := om.seen (by rw [marks_length]; omega)
  clear om
  clear h6 HA5 HB5 VS5 HG5
  go_wp2_with fail
  refine (heldByteS_calls _ 1 _ (by omega) VM6.out).mono ?_
  rintro e w7 ⟨rfl, h7⟩
  have h7 := h7.chg 0 0
  have HA7 : Hid (Chg 0 0 w w7) := HA6.out.trans h7
  have s7 := h7.size
  have HB7 : Hid (w7.heap[w.heap.size]? = some (.cells #[.int .i64 b, .int .i64 l, .int .i64 n] 23 (0, 0))) := (h7.block _ (by omega) (by omega)).trans HB6.out
  have VS7 : Hid (View w7 w1.heap.size w2.heap.size .u8 (.slice sa sl sc) X) := VS6.out.chg h7 (by omega)
  clear h7 HA6 HB6 VS6 VM6
  have hk0 : ¬ (((1 + X.length : Nat) : Int) < 0) := by omega
  have hne : (((1 + X.length : Nat) : Int) != ((1 + X.length : Nat) : Int)) = false := by simp
  obtain ⟨q0, q1, q2⟩ := geo3 HB7.out
  go_wp2_with fail
  clear q0 q1 q2
  clear hk0 hne
  refine (toGeometry_calls _ b l n).mono ?_
  rintro e w8 ⟨rfl, h8⟩
  have HA8 : Hid (Chg 0 0 w w8) := HA7.out.trans h8
  have s8 := h8.size
  have HB8 : Hid (w8.heap[w.heap.size]? = some (.cells #[.int .i64 b, .int .i64 l, .int .i64 n] 23 (0, 0))) := (h8.block _ (by omega) (by omega)).trans HB7.out
  have VS8 : Hid (View w8 w1.heap.size w2.heap.size .u8 (.slice sa sl sc) X) := VS7.out.chg h8 (by omega)
  clear h8 HA7 HB7 VS7
  go_wp2_with fail
  refine (HI.out _ HA8.out).mono ?_
  rintro e w9 ⟨vh, rfl, oh, h9⟩
  have HA9 : Hid (Chg 0 0 w w9) := HA8.out.trans h9
  have s9 := h9.size
  have HB9 : Hid (w9.heap[w.heap.size]? = some (.cells #[.int .i64 b, .int .i64 l, .int .i64 n] 23 (0, 0))) := (h9.block _ (by omega) (by omega)).trans HB8.out
  have VS9 : Hid (View w9 w1.heap.size w2.heap.size .u8 (.slice sa sl sc) X) := VS8.out.chg h9 (by omega)
  have VH9 : Hid (View w9 w8.heap.size w9.heap.size .u8 vh X) := oh.seen (by omega)
  obtain ⟨ha, hl2, hc2, rfl⟩ := row_slice oh
  clear oh
  clear h9 HA8 HB8 VS8
  go_wp2_with fail
  refine (eqByteS_calls _ VH9.out VS9.out).mono ?_
  rintro e w10 ⟨rfl, h10⟩
  have h10 := h10.chg 0 0
  have HA10 : Hid (Chg 0 0 w w10) := HA9.out.trans h10
  have s10 := h10.size
  have HB10 : Hid (w10.heap[w.heap.size]? = some (.cells #[.int .i64 b, .int .i64 l, .int .i64 n] 23 (0, 0))) := (h10.block _ (by omega) (by omega)).trans HB9.out
  have VS10 : Hid (View w10 w1.heap.size w2.heap.size .u8 (.slice sa sl sc) X) := VS9.out.chg h10 (by omega)
  have VH10 : Hid (View w10 w8.heap.size w9.heap.size .u8 (.slice ha hl2 hc2) X) := VH9.out.chg h10 (by omega)
  clear h10 HA9 HB9 VS9 VH9
  go_wp2
  go_ret
  exact ⟨rfl, HA10.out.below (by omega)⟩

/-- What the row lists. -/
abbrev lt : List (String × DataW Unit) := Rows.fnExactEncodeSuperRow.laid

theorem sys_of_row {W : World} (h : laidMetH Tryd.prog lt W) : SysM W := by
  have h' : laidMet Tryd.prog [("loop.example/s01525/impl.systemMagic", Rows.laid_loop_example_s01525_impl_systemMagic)] W := h
  exact sys_of_laid h'

/-- A world that meets the condition. -/
def laidWorld (p : Program) (os : Os) : World :=
  let w0 := World.holding p os ⟨#[], #[], []⟩
  { w0 with heap := w0.heap.modify 0 fun
      | .cells _ t frozen => .cells #[.int .u8 102, .int .u8 115, .int .u8 121, .int .u8 115] t frozen
      | o => o }

theorem laidWorld_met (os : Os) (args : Array Value) : laidMetH Tryd.prog lt ((laidWorld Tryd.prog os).forCall (fun _ _ => 0) ⟨#[], args, []⟩).memory :=
  laidMetH_of_parts (laidMet_of_run (ps := [.cell 0 0, .cell 0 1, .cell 0 2, .cell 0 3]) 8 (by kernel_rfl) (by kernel_rfl) (by kernel_rfl)) (by kernel_rfl)

set_option maxRecDepth 100000 in
theorem lawEncodeSuper_lifted (os : Os) (started : os.Started) (H : Type) (enc : TypeId × Value → H) :
    ReturnsInHanded {} Tryd.checked os 3 .any (fun w args => (Rows.fnExactEncodeSuperSpec.pre enc Tryd.prog Tryd.f3 [] false w args ∧ laidMetH Tryd.prog lt w) ∧ sizedMet enc Tryd.prog Tryd.f3 (OpenSpec.ofChange Rows.fnExactEncodeSuperSpec) false w args)
      (Rows.fnExactEncodeSuperSpec.post enc Tryd.prog Tryd.f3 false true false false) := by
  refine returnsInHanded_of_change_and (C := Tryd.checked) (X := fun w _ => laidMetH Tryd.prog lt w) (fun _ _ _ hh h => h.of_heap hh) own started (by kernel_rfl) Tryd.func3
    (ChangeSpec.witness_at (enc := enc) (C := Tryd.checked) (os := os) (X := fun w _ => laidMetH Tryd.prog lt w) false (laidWorld Tryd.prog os) #[.agg #[.int .i64 0, .int .i64 0, .int .i64 0]] 8 rfl (by kernel_rfl) (by kernel_rfl) (by kernel_rfl) (by kernel_rfl) (by kernel_rfl) (laidWorld_met os _)) ?_
  intro W base args ds gs before hval0 hW _ _ hL _
  have hval : ∀ (j : Nat) t v, Tryd.f3.params[j]? = some t → args[j]? = some v → Value.okWide Tryd.prog W .any base t v := hval0
  have hW' := hW
  obtain ⟨p, q, hA0, hV0, rfl, hfz, hnd⟩ := hW
  have hA : DataW.TrodAll enc Tryd.prog W 0 (fun _ => true) true Tryd.f3.params.toList args.toList ds p := hA0
  rw [Tryd.params3] at hA hval
  obtain ⟨v0, vs0, d0, ds0, p0, q0, hargs, rfl, rfl, h0, r0⟩ := trodAll_cons hA
  obtain ⟨rfl, rfl, rfl⟩ := trodAll_nil r0
  obtain rfl : args = #[v0] := by cases args; simp_all
  obtain ⟨g1, rfl⟩ : ∃ g1, gs = [g1] := by
    match gs, hV0 with
    | [g1], _ => exact ⟨g1, rfl⟩
  have k0 := h0
  have lt0 : ∀ x ∈ p0, x.block < W.heap.size := by obtain ⟨m, hm⟩ := k0; exact DataW.trod_lt m _ _ _ hm
  obtain ⟨b, l, n, rfl⟩ := geo_of_trod (hval 0 23 v0 rfl rfl) h0
  clear hA0 hval0
  refine (lawEncodeSuper_walk W (sys_of_row hL) b l n).mono fun e W' ⟨he, bel⟩ => ?_
  subst he
  exact ⟨_, rfl, _, _, _, [], _, _, hW', trodAll_mk1 (shut_bool Tryd.underlying4 _), (trodAll_cons_mk (Below.trod laidOut (by kernel_rfl) (of_decide_eq_true (by kernel_rfl)) k0 bel lt0) trodAll_mk0), Below.trodVars laidOut bel (by kernel_rfl) hV0, bel.frame _, fun h => by cases h⟩

theorem fnExactEncodeSuper_row : Rows.FnExactEncodeSuperSaid :=
  OpenClaim.holds_of_wide 3 Tryd.f3 rfl rfl rfl rfl rfl rfl rfl ⟨rfl, rfl, rfl, rfl, rfl⟩ rfl rfl rfl rfl rfl (by kernel_rfl) Tryd.func3 (by kernel_rfl)
    (of_decide_eq_true (by kernel_rfl)) (by unfold Func.isWrapper; first | (rw [if_pos (by decide +kernel)]; kernel_rfl) | (rw [if_neg (by decide +kernel)]; exact ⟨rfl, rfl⟩))
    (fun os started H enc _ => lawEncodeSuper_lifted os started H enc)
#print axioms fnExactEncodeSuper_row
end Go.Proofs.YtikldohglkjlaaaDoor

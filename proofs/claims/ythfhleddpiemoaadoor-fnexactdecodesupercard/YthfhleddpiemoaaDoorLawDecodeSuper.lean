/- The law on DecodeSuper (made by tools/mklaw_fs.py). -/
import Derived.Test.YthfhleddpiemoaaDoorImplFs
import Derived.Test.YthfhleddpiemoaaDoorImplFsD
import Derived.Test.YthfhleddpiemoaaDoorLaidSys
import Derived.Test.YthfhleddpiemoaaDoorEqB
import Derived.Test.YthfhleddpiemoaaDoorToB
import Derived.Test.YthfhleddpiemoaaDoorOpenB
import Derived.Test.YthfhleddpiemoaaDoorOpenGeo
namespace Go.Proofs.YthfhleddpiemoaaDoor
open Go.ChangeShapes Go.WideShapes Go.ChangeAt Go.RowKit

theorem decSup_flat (xs : List Int) : ∃ g b l n, decSup xs = srV g b l n := by
  unfold decSup
  split
  · exact ⟨_, _, _, _, rfl⟩
  · exact ⟨_, _, _, _, rfl⟩

set_option maxRecDepth 20000 in
set_option maxHeartbeats 1000000 in
theorem eqGeometry_calls (w : World) (b l n : Int) : Calls Tryd.prog 13 #[geoV b l n, geoV b l n] w fun e w' => e = .returned (.bool true) ∧ Chg 0 0 w w' := by
  have h1 : ((b != b) = false) := by simp
  have h2 : ((l != l) = false) := by simp
  have h3 : ((n != n) = false) := by simp
  have HA : Hid (Chg 0 0 w ((w.alloc (.cells #[.int .i64 b, .int .i64 l, .int .i64 n] 24)).alloc (.cells #[.int .i64 b, .int .i64 l, .int .i64 n] 24))) := (Chg.alloc (Chg.refl 0 0 w) _).alloc _
  go_enter Tryd.func13, Tryd.ntmps13
  go_wp2
  go_ret
  exact ⟨rfl, HA.out⟩

set_option maxRecDepth 20000 in
set_option maxHeartbeats 1000000 in
theorem eqSuperResult_calls (w : World) (g : Bool) (b l n : Int) : Calls Tryd.prog 7 #[srV g b l n, srV g b l n] w fun e w' => e = .returned (.bool true) ∧ Chg 0 0 w w' := by
  have hb : ((g != g) = false) := by simp
  obtain ⟨⟨r0, r1, r2, r3⟩, _⟩ := four_all (heap_new (w.alloc (.cells #[.bool g, .int .i64 b, .int .i64 l, .int .i64 n] 26)) (.cells #[.bool g, .int .i64 b, .int .i64 l, .int .i64 n] 26))
  have hA : Chg 0 0 w ((w.alloc (.cells #[.bool g, .int .i64 b, .int .i64 l, .int .i64 n] 26)).alloc (.cells #[.bool g, .int .i64 b, .int .i64 l, .int .i64 n] 26)) := (Chg.alloc (Chg.refl 0 0 w) _).alloc _
  have cA : Chg 0 0 (w.alloc (.cells #[.bool g, .int .i64 b, .int .i64 l, .int .i64 n] 26)) ((w.alloc (.cells #[.bool g, .int .i64 b, .int .i64 l, .int .i64 n] 26)).alloc (.cells #[.bool g, .int .i64 b, .int .i64 l, .int .i64 n] 26)) := Chg.alloc (Chg.refl 0 0 _) _
  obtain ⟨⟨t0, t1, t2, t3⟩, _⟩ := four_all ((cA.block w.heap.size (by simp) (by omega)).trans (heap_new w (.cells #[.bool g, .int .i64 b, .int .i64 l, .int .i64 n] 26)))
  have HA : Hid (Chg 0 0 w ((w.alloc (.cells #[.bool g, .int .i64 b, .int .i64 l, .int .i64 n] 26)).alloc (.cells #[.bool g, .int .i64 b, .int .i64 l, .int .i64 n] 26))) := hA
  clear hA cA
  go_enter Tryd.func7, Tryd.ntmps7
  go_wp2_with fail
  generalize (w.alloc (.cells #[.bool g, .int .i64 b, .int .i64 l, .int .i64 n] 26)).alloc (.cells #[.bool g, .int .i64 b, .int .i64 l, .int .i64 n] 26) = w0 at *
  refine (eqGeometry_calls _ b l n).mono ?_
  rintro e w1 ⟨rfl, h1⟩
  have HA1 : Hid (Chg 0 0 w w1) := HA.out.trans h1
  clear h1 HA r0 r1 r2 r3 t0 t1 t2 t3 hb
  go_wp2
  go_ret
  exact ⟨rfl, HA1.out⟩

set_option maxRecDepth 20000 in
set_option maxHeartbeats 2000000 in
theorem lawDecodeSuper_walk (w : World) (hm : SysM w) {hi : Nat} {a : Value} {xs : List Int} (hB : Byt xs) (h1 : View w 0 hi .u8 a xs) :
    Calls Tryd.prog 3 #[a] w fun e w' => e = .returned (.bool true) ∧ Below w.heap.size w w' := by
  have V0 : Hid (View w 0 hi .u8 a xs) := h1
  obtain ⟨ao, cap, rfl, hl0, _, _⟩ := h1
  by_cases hl : xs.length ≤ 1048576
  case neg =>
    go_enter Tryd.func3, Tryd.ntmps3
    go_wp2
    go_ret
    exact ⟨rfl, (Chg.refl 0 0 w).below (by omega)⟩
  have HS : Hid (∀ (w : World) (lo hi : Nat) (a : Value), View w lo hi .u8 a xs → Calls Tryd.prog 4 #[a] w fun e w' => e = .returned (decSup xs) ∧ Chg 0 0 w w') := fun w lo hi a h => specDecSuper_calls w h hB
  have HI : Hid (∀ (W : World) (lo hi : Nat) (a : Value), Chg 0 0 w W → View W lo hi .u8 a xs → Calls Tryd.prog 6 #[a] W fun e w' => e = .returned (decSup xs) ∧ Chg 0 0 W w') := fun W lo hi a hc h => implDecodeSuper_calls W h hB (hm.chg hc)
  obtain ⟨g, b, l, n, hd⟩ := decSup_flat xs
  rw [hd] at HS HI
  clear hd hB
  have HA0 : Hid (Chg 0 0 w w) := Chg.refl 0 0 w
  go_enter Tryd.func3, Tryd.ntmps3
  go_wp2_with fail
  refine (toByteS_calls _ hl (V0.out.chg HA0.out (by omega))).mono ?_
  rintro e w1 ⟨g1, rfl, o1, h1⟩
  have HA1 : Hid (Chg 0 0 w w1) := HA0.out.trans h1
  have s1 := h1.size
  have VX1 : Hid (View w1 w.heap.size w1.heap.size .u8 (.slice (some ⟨g1, 0, none⟩) xs.length xs.length) xs) := o1.seen (by omega)
  clear o1
  clear h1 HA0
  go_wp2_with fail
  refine (HS.out _ _ _ _ VX1.out).mono ?_
  rintro e w2 ⟨rfl, h2⟩
  have HA2 : Hid (Chg 0 0 w w2) := HA1.out.trans h2
  have s2 := h2.size
  clear h2 HA1 VX1
  have Ca : Chg 0 0 w2 (w2.alloc (.cells #[.bool g, .int .i64 b, .int .i64 l, .int .i64 n] 26)) := Chg.alloc (Chg.refl 0 0 w2) _
  have Ba := heap_new w2 (.cells #[.bool g, .int .i64 b, .int .i64 l, .int .i64 n] 26)
  have sa : (w2.alloc (.cells #[.bool g, .int .i64 b, .int .i64 l, .int .i64 n] 26)).heap.size = w2.heap.size + 1 := by simp
  have HA2a : Hid (Chg 0 0 w (w2.alloc (.cells #[.bool g, .int .i64 b, .int .i64 l, .int .i64 n] 26))) := HA2.out.trans Ca
  have HB2 : Hid ((w2.alloc (.cells #[.bool g, .int .i64 b, .int .i64 l, .int .i64 n] 26)).heap[w2.heap.size]? = some (.cells #[.bool g, .int .i64 b, .int .i64 l, .int .i64 n] 26 (0, 0))) := Ba
  clear Ca Ba HA2
  go_wp2_with fail
  generalize w2.alloc (.cells #[.bool g, .int .i64 b, .int .i64 l, .int .i64 n] 26) = w2a at *
  refine (toByteS_calls _ hl (V0.out.chg HA2a.out (by omega))).mono ?_
  rintro e w3 ⟨g3, rfl, o3, h3⟩
  have HA3 : Hid (Chg 0 0 w w3) := HA2a.out.trans h3
  have s3 := h3.size
  have HB3 : Hid (w3.heap[w2.heap.size]? = some (.cells #[.bool g, .int .i64 b, .int .i64 l, .int .i64 n] 26 (0, 0))) := (h3.block _ (by omega) (by omega)).trans HB2.out
  have VX3 : Hid (View w3 w2a.heap.size w3.heap.size .u8 (.slice (some ⟨g3, 0, none⟩) xs.length xs.length) xs) := o3.seen (by omega)
  clear o3
  clear h3 HA2a HB2
  go_wp2_with fail
  refine (HI.out _ _ _ _ HA3.out VX3.out).mono ?_
  rintro e w4 ⟨rfl, h4⟩
  have HA4 : Hid (Chg 0 0 w w4) := HA3.out.trans h4
  have s4 := h4.size
  have HB4 : Hid (w4.heap[w2.heap.size]? = some (.cells #[.bool g, .int .i64 b, .int .i64 l, .int .i64 n] 26 (0, 0))) := (h4.block _ (by omega) (by omega)).trans HB3.out
  have VX4 : Hid (View w4 w2a.heap.size w3.heap.size .u8 (.slice (some ⟨g3, 0, none⟩) xs.length xs.length) xs) := VX3.out.chg h4 (by omega)
  clear h4 HA3 HB3 VX3
  have Ca : Chg 0 0 w4 (w4.alloc (.cells #[.bool g, .int .i64 b, .int .i64 l, .int .i64 n] 26)) := Chg.alloc (Chg.refl 0 0 w4) _
  have Ba := heap_new w4 (.cells #[.bool g, .int .i64 b, .int .i64 l, .int .i64 n] 26)
  have sa4 : (w4.alloc (.cells #[.bool g, .int .i64 b, .int .i64 l, .int .i64 n] 26)).heap.size = w4.heap.size + 1 := by simp
  have HA4a : Hid (Chg 0 0 w (w4.alloc (.cells #[.bool g, .int .i64 b, .int .i64 l, .int .i64 n] 26))) := HA4.out.trans Ca
  have VX4a : Hid (View (w4.alloc (.cells #[.bool g, .int .i64 b, .int .i64 l, .int .i64 n] 26)) w2a.heap.size w3.heap.size .u8 (.slice (some ⟨g3, 0, none⟩) xs.length xs.length) xs) := VX4.out.chg Ca (by omega)
  obtain ⟨⟨r0, r1, r2, r3⟩, _⟩ := four_all Ba
  obtain ⟨⟨t0, t1, t2, t3⟩, _⟩ := four_all ((Ca.block _ (by omega) (by omega)).trans HB4.out)
  clear Ca Ba HA4 HB4 VX4
  go_wp2_with fail
  generalize w4.alloc (.cells #[.bool g, .int .i64 b, .int .i64 l, .int .i64 n] 26) = w4a at *
  clear r0 r1 r2 r3 t0 t1 t2 t3
  refine (eqSuperResult_calls _ g b l n).mono ?_
  rintro e w5 ⟨rfl, h5⟩
  have HA5 : Hid (Chg 0 0 w w5) := HA4a.out.trans h5
  have s5 := h5.size
  have VX5 : Hid (View w5 w2a.heap.size w3.heap.size .u8 (.slice (some ⟨g3, 0, none⟩) xs.length xs.length) xs) := VX4a.out.chg h5 (by omega)
  clear h5 HA4a VX4a
  go_wp2_with fail
  refine (toByteS_calls _ hl (V0.out.chg HA5.out (by omega))).mono ?_
  rintro e w6 ⟨g6, rfl, o6, h6⟩
  have HA6 : Hid (Chg 0 0 w w6) := HA5.out.trans h6
  have s6 := h6.size
  have VX6 : Hid (View w6 w2a.heap.size w3.heap.size .u8 (.slice (some ⟨g3, 0, none⟩) xs.length xs.length) xs) := VX5.out.chg h6 (by omega)
  have VY6 : Hid (View w6 w5.heap.size w6.heap.size .u8 (.slice (some ⟨g6, 0, none⟩) xs.length xs.length) xs) := o6.seen (by omega)
  clear o6
  clear h6 HA5 VX5
  go_wp2_with fail
  refine (eqByteS_calls _ VX6.out VY6.out).mono ?_
  rintro e w7 ⟨rfl, h7⟩
  have h7 := h7.chg 0 0
  have HA7 : Hid (Chg 0 0 w w7) := HA6.out.trans h7
  have s7 := h7.size
  have VX7 : Hid (View w7 w2a.heap.size w3.heap.size .u8 (.slice (some ⟨g3, 0, none⟩) xs.length xs.length) xs) := VX6.out.chg h7 (by omega)
  have VY7 : Hid (View w7 w5.heap.size w6.heap.size .u8 (.slice (some ⟨g6, 0, none⟩) xs.length xs.length) xs) := VY6.out.chg h7 (by omega)
  clear h7 HA6 VX6 VY6
  go_wp2
  go_ret
  exact ⟨rfl, HA7.out.below (by omega)⟩

/-- What the row lists. -/
abbrev lt : List (String × DataW Unit) := Rows.fnExactDecodeSuperRow.laid

theorem sys_of_row {W : World} (h : laidMetH Tryd.prog lt W) : SysM W := by
  have h' : laidMet Tryd.prog [("loop.example/s01525/impl.systemMagic", Rows.laid_loop_example_s01525_impl_systemMagic)] W := h
  exact sys_of_laid h'

/-- A world that meets the condition. -/
def laidWorld (p : Program) (os : Os) : World :=
  let w0 := World.holding p os ⟨#[], #[], []⟩
  { w0 with heap := w0.heap.modify 0 fun
      | .cells _ t frozen => .cells #[.int .u8 102, .int .u8 115, .int .u8 121, .int .u8 115] t frozen
      | o => o }

theorem laidWorld_met (os : Os) (args : Array Value) : laidMetH Tryd.prog lt ((laidWorld Tryd.prog os).forCall (fun _ _ => 0) ⟨#[], args, []⟩).memory :=
  laidMetH_of_parts (laidMet_of_run (ps := [.cell 0 0, .cell 0 1, .cell 0 2, .cell 0 3]) 8 (by kernel_rfl) (by kernel_rfl) (by kernel_rfl)) (by kernel_rfl)

set_option maxRecDepth 100000 in
theorem lawDecodeSuper_lifted (os : Os) (started : os.Started) (H : Type) (enc : TypeId × Value → H) :
    ReturnsInHanded {} Tryd.checked os 3 .any (fun w args => (Rows.fnExactDecodeSuperSpec.pre enc Tryd.prog Tryd.f3 [] false w args ∧ laidMetH Tryd.prog lt w) ∧ sizedMet enc Tryd.prog Tryd.f3 (OpenSpec.ofChange Rows.fnExactDecodeSuperSpec) false w args)
      (Rows.fnExactDecodeSuperSpec.post enc Tryd.prog Tryd.f3 false true false false) := by
  refine returnsInHanded_of_change_and (C := Tryd.checked) (X := fun w _ => laidMetH Tryd.prog lt w) (fun _ _ _ hh h => h.of_heap hh) own started (by kernel_rfl) Tryd.func3
    (ChangeSpec.witness_at (enc := enc) (C := Tryd.checked) (os := os) (X := fun w _ => laidMetH Tryd.prog lt w) false (laidWorld Tryd.prog os) #[.slice none 0 0] 8 rfl (by kernel_rfl) (by kernel_rfl) (by kernel_rfl) (by kernel_rfl) (by kernel_rfl) (laidWorld_met os _)) ?_
  intro W base args ds gs before hval0 hW _ _ hL _
  have hval : ∀ (j : Nat) t v, Tryd.f3.params[j]? = some t → args[j]? = some v → Value.okWide Tryd.prog W .any base t v := hval0
  have hW' := hW
  obtain ⟨p, q, hA0, hV0, rfl, hfz, hnd⟩ := hW
  have hA : DataW.TrodAll enc Tryd.prog W 0 (fun _ => true) true Tryd.f3.params.toList args.toList ds p := hA0
  rw [Tryd.params3] at hA hval
  obtain ⟨v0, vs0, d0, ds0, p0, q0, hargs, rfl, rfl, h0, r0⟩ := trodAll_cons hA
  obtain ⟨rfl, rfl, rfl⟩ := trodAll_nil r0
  obtain rfl : args = #[v0] := by cases args; simp_all
  obtain ⟨g1, rfl⟩ : ∃ g1, gs = [g1] := by
    match gs, hV0 with
    | [g1], _ => exact ⟨g1, rfl⟩
  have k0 := h0
  have lt0 : ∀ x ∈ p0, x.block < W.heap.size := by obtain ⟨m, hm⟩ := k0; exact DataW.trod_lt m _ _ _ hm
  obtain ⟨ka, kl, kcp, rfl⟩ := okWide_slice Tryd.underlying22 (hval 0 22 v0 rfl rfl)
  obtain ⟨xs, hx, hwf⟩ : ∃ xs, View W 0 W.heap.size .u8 (.slice ka kl kcp) xs ∧ ∀ x ∈ xs, (Lit.int .u8 x).wf = true := by obtain ⟨m, hm⟩ := h0; exact view_wf_of_trod Tryd.underlying22 Tryd.underlying5 (by kernel_rfl) hm
  clear hA0 hval0
  refine (lawDecodeSuper_walk W (sys_of_row hL) (byt_of_wf hwf) hx).mono fun e W' ⟨he, bel⟩ => ?_
  subst he
  exact ⟨_, rfl, _, _, _, [], _, _, hW', trodAll_mk1 (shut_bool Tryd.underlying4 _), (trodAll_cons_mk (Below.trod laidOut (by kernel_rfl) (of_decide_eq_true (by kernel_rfl)) k0 bel lt0) trodAll_mk0), Below.trodVars laidOut bel (by kernel_rfl) hV0, bel.frame _, fun h => by cases h⟩

theorem fnExactDecodeSuper_row : Rows.FnExactDecodeSuperSaid :=
  OpenClaim.holds_of_wide 3 Tryd.f3 rfl rfl rfl rfl rfl rfl rfl ⟨rfl, rfl, rfl, rfl, rfl⟩ rfl rfl rfl rfl rfl (by kernel_rfl) Tryd.func3 (by kernel_rfl)
    (of_decide_eq_true (by kernel_rfl)) (by unfold Func.isWrapper; first | (rw [if_pos (by decide +kernel)]; kernel_rfl) | (rw [if_neg (by decide +kernel)]; exact ⟨rfl, rfl⟩))
    (fun os started H enc _ => lawDecodeSuper_lifted os started H enc)
#print axioms fnExactDecodeSuper_row
end Go.Proofs.YthfhleddpiemoaaDoor

/- The law on DecodeEntry (made by tools/mklaw_entdec.py). -/
import Derived.Test.YtallhelhmpbpcaaImplEnt4
import Derived.Test.YtallhelhmpbpcaaEqB
import Derived.Test.YtallhelhmpbpcaaToB
import Derived.Test.YtallhelhmpbpcaaOpenB
namespace Go.Proofs.Ytallhelhmpbpcaa
open Go.ChangeShapes Go.WideShapes Go.ChangeAt Go.RowKit

theorem decEnt_flat (xs : List Int) : ∃ g b s, decEnt xs = erV g b s := by
  unfold decEnt
  split
  · exact ⟨_, _, _, rfl⟩
  · exact ⟨_, _, _, rfl⟩

set_option maxRecDepth 20000 in
set_option maxHeartbeats 1000000 in
theorem eqEntryResult_calls (w : World) (g : Bool) (b : Int) (s : ByteArray) : Calls Try.prog 7 #[erV g b s, erV g b s] w fun e w' => e = .returned (.bool true) ∧ Chg 0 0 w w' := by
  have hb : ((g != g) = false) := by simp
  obtain ⟨⟨r0, r1, r2⟩, _⟩ := three_all (heap_new (w.alloc (.cells #[.bool g, .int .i64 b, .string s] 26)) (.cells #[.bool g, .int .i64 b, .string s] 26))
  have hA : Chg 0 0 w ((w.alloc (.cells #[.bool g, .int .i64 b, .string s] 26)).alloc (.cells #[.bool g, .int .i64 b, .string s] 26)) := (Chg.alloc (Chg.refl 0 0 w) _).alloc _
  have cA : Chg 0 0 (w.alloc (.cells #[.bool g, .int .i64 b, .string s] 26)) ((w.alloc (.cells #[.bool g, .int .i64 b, .string s] 26)).alloc (.cells #[.bool g, .int .i64 b, .string s] 26)) := Chg.alloc (Chg.refl 0 0 _) _
  obtain ⟨⟨t0, t1, t2⟩, _⟩ := three_all ((cA.block w.heap.size (by simp) (by omega)).trans (heap_new w (.cells #[.bool g, .int .i64 b, .string s] 26)))
  have HA : Hid (Chg 0 0 w ((w.alloc (.cells #[.bool g, .int .i64 b, .string s] 26)).alloc (.cells #[.bool g, .int .i64 b, .string s] 26))) := hA
  clear hA cA
  go_enter Try.func7, Try.ntmps7
  go_wp2_with fail
  generalize (w.alloc (.cells #[.bool g, .int .i64 b, .string s] 26)).alloc (.cells #[.bool g, .int .i64 b, .string s] 26) = w0 at *
  refine (eqEntry_calls _ b s).mono ?_
  rintro e w1 ⟨rfl, h1⟩
  have HA1 : Hid (Chg 0 0 w w1) := HA.out.trans h1
  clear h1 HA r0 r1 r2 t0 t1 t2 hb
  go_wp2
  go_ret
  exact ⟨rfl, HA1.out⟩

set_option maxRecDepth 20000 in
set_option maxHeartbeats 2000000 in
theorem lawDecodeEntry_walk (w : World) {hi : Nat} {a : Value} {xs : List Int} (hB : Byt xs) (h1 : View w 0 hi .u8 a xs) :
    Calls Try.prog 3 #[a] w fun e w' => e = .returned (.bool true) ∧ Below w.heap.size w w' := by
  have V0 : Hid (View w 0 hi .u8 a xs) := h1
  obtain ⟨ao, cap, rfl, hl0, _, _⟩ := h1
  by_cases hl : xs.length ≤ 1048576
  case neg =>
    go_enter Try.func3, Try.ntmps3
    go_wp2
    go_ret
    exact ⟨rfl, (Chg.refl 0 0 w).below (by omega)⟩
  have HS : Hid (∀ (w : World) (lo hi : Nat) (a : Value), View w lo hi .u8 a xs → Calls Try.prog 4 #[a] w fun e w' => e = .returned (decEnt xs) ∧ Chg 0 0 w w') := fun w lo hi a h => specDecEntry_calls w h hB
  have HI : Hid (∀ (w : World) (lo hi : Nat) (a : Value), View w lo hi .u8 a xs → Calls Try.prog 6 #[a] w fun e w' => e = .returned (decEnt xs) ∧ Chg 0 0 w w') := fun w lo hi a h => implDecodeEntry_calls w h hB
  obtain ⟨g, b, s, hd⟩ := decEnt_flat xs
  rw [hd] at HS HI
  clear hd hB
  have HA0 : Hid (Chg 0 0 w w) := Chg.refl 0 0 w
  go_enter Try.func3, Try.ntmps3
  go_wp2_with fail
  refine (toByteS_calls _ hl (V0.out.chg HA0.out (by omega))).mono ?_
  rintro e w1 ⟨g1, rfl, o1, h1⟩
  have HA1 : Hid (Chg 0 0 w w1) := HA0.out.trans h1
  have s1 := h1.size
  have VX1 : Hid (View w1 w.heap.size w1.heap.size .u8 (.slice (some ⟨g1, 0, none⟩) xs.length xs.length) xs) := o1.seen (by omega)
  clear o1
  clear h1 HA0
  go_wp2_with fail
  refine (HS.out _ _ _ _ VX1.out).mono ?_
  rintro e w2 ⟨rfl, h2⟩
  have HA2 : Hid (Chg 0 0 w w2) := HA1.out.trans h2
  have s2 := h2.size
  clear h2 HA1 VX1
  have Ca : Chg 0 0 w2 (w2.alloc (.cells #[.bool g, .int .i64 b, .string s] 26)) := Chg.alloc (Chg.refl 0 0 w2) _
  have Ba := heap_new w2 (.cells #[.bool g, .int .i64 b, .string s] 26)
  have sa : (w2.alloc (.cells #[.bool g, .int .i64 b, .string s] 26)).heap.size = w2.heap.size + 1 := by simp
  have HA2a : Hid (Chg 0 0 w (w2.alloc (.cells #[.bool g, .int .i64 b, .string s] 26))) := HA2.out.trans Ca
  have HB2 : Hid ((w2.alloc (.cells #[.bool g, .int .i64 b, .string s] 26)).heap[w2.heap.size]? = some (.cells #[.bool g, .int .i64 b, .string s] 26 (0, 0))) := Ba
  clear Ca Ba HA2
  go_wp2_with fail
  generalize w2.alloc (.cells #[.bool g, .int .i64 b, .string s] 26) = w2a at *
  refine (toByteS_calls _ hl (V0.out.chg HA2a.out (by omega))).mono ?_
  rintro e w3 ⟨g3, rfl, o3, h3⟩
  have HA3 : Hid (Chg 0 0 w w3) := HA2a.out.trans h3
  have s3 := h3.size
  have HB3 : Hid (w3.heap[w2.heap.size]? = some (.cells #[.bool g, .int .i64 b, .string s] 26 (0, 0))) := (h3.block _ (by omega) (by omega)).trans HB2.out
  have VX3 : Hid (View w3 w2a.heap.size w3.heap.size .u8 (.slice (some ⟨g3, 0, none⟩) xs.length xs.length) xs) := o3.seen (by omega)
  clear o3
  clear h3 HA2a HB2
  go_wp2_with fail
  refine (HI.out _ _ _ _ VX3.out).mono ?_
  rintro e w4 ⟨rfl, h4⟩
  have HA4 : Hid (Chg 0 0 w w4) := HA3.out.trans h4
  have s4 := h4.size
  have HB4 : Hid (w4.heap[w2.heap.size]? = some (.cells #[.bool g, .int .i64 b, .string s] 26 (0, 0))) := (h4.block _ (by omega) (by omega)).trans HB3.out
  have VX4 : Hid (View w4 w2a.heap.size w3.heap.size .u8 (.slice (some ⟨g3, 0, none⟩) xs.length xs.length) xs) := VX3.out.chg h4 (by omega)
  clear h4 HA3 HB3 VX3
  have Ca : Chg 0 0 w4 (w4.alloc (.cells #[.bool g, .int .i64 b, .string s] 26)) := Chg.alloc (Chg.refl 0 0 w4) _
  have Ba := heap_new w4 (.cells #[.bool g, .int .i64 b, .string s] 26)
  have sa4 : (w4.alloc (.cells #[.bool g, .int .i64 b, .string s] 26)).heap.size = w4.heap.size + 1 := by simp
  have HA4a : Hid (Chg 0 0 w (w4.alloc (.cells #[.bool g, .int .i64 b, .string s] 26))) := HA4.out.trans Ca
  have VX4a : Hid (View (w4.alloc (.cells #[.bool g, .int .i64 b, .string s] 26)) w2a.heap.size w3.heap.size .u8 (.slice (some ⟨g3, 0, none⟩) xs.length xs.length) xs) := VX4.out.chg Ca (by omega)
  obtain ⟨⟨r0, r1, r2⟩, _⟩ := three_all Ba
  obtain ⟨⟨t0, t1, t2⟩, _⟩ := three_all ((Ca.block _ (by omega) (by omega)).trans HB4.out)
  clear Ca Ba HA4 HB4 VX4
  go_wp2_with fail
  generalize w4.alloc (.cells #[.bool g, .int .i64 b, .string s] 26) = w4a at *
  clear r0 r1 r2 t0 t1 t2
  refine (eqEntryResult_calls _ g b s).mono ?_
  rintro e w5 ⟨rfl, h5⟩
  have HA5 : Hid (Chg 0 0 w w5) := HA4a.out.trans h5
  have s5 := h5.size
  have VX5 : Hid (View w5 w2a.heap.size w3.heap.size .u8 (.slice (some ⟨g3, 0, none⟩) xs.length xs.length) xs) := VX4a.out.chg h5 (by omega)
  clear h5 HA4a VX4a
  go_wp2_with fail
  refine (toByteS_calls _ hl (V0.out.chg HA5.out (by omega))).mono ?_
  rintro e w6 ⟨g6, rfl, o6, h6⟩
  have HA6 : Hid (Chg 0 0 w w6) := HA5.out.trans h6
  have s6 := h6.size
  have VX6 : Hid (View w6 w2a.heap.size w3.heap.size .u8 (.slice (some ⟨g3, 0, none⟩) xs.length xs.length) xs) := VX5.out.chg h6 (by omega)
  have VY6 : Hid (View w6 w5.heap.size w6.heap.size .u8 (.slice (some ⟨g6, 0, none⟩) xs.length xs.length) xs) := o6.seen (by omega)
  clear o6
  clear h6 HA5 VX5
  go_wp2_with fail
  refine (eqByteS_calls _ VX6.out VY6.out).mono ?_
  rintro e w7 ⟨rfl, h7⟩
  have h7 := h7.chg 0 0
  have HA7 : Hid (Chg 0 0 w w7) := HA6.out.trans h7
  have s7 := h7.size
  have VX7 : Hid (View w7 w2a.heap.size w3.heap.size .u8 (.slice (some ⟨g3, 0, none⟩) xs.length xs.length) xs) := VX6.out.chg h7 (by omega)
  have VY7 : Hid (View w7 w5.heap.size w6.heap.size .u8 (.slice (some ⟨g6, 0, none⟩) xs.length xs.length) xs) := VY6.out.chg h7 (by omega)
  clear h7 HA6 VX6 VY6
  go_wp2
  go_ret
  exact ⟨rfl, HA7.out.below (by omega)⟩

set_option maxRecDepth 100000 in
theorem lawDecodeEntry_lifted (os : Os) (started : os.Started) (H : Type) (enc : TypeId × Value → H) :
    ReturnsInHanded {} Try.checked os 3 .any (Rows.fnExactDecodeEntrySpec.pre6 enc Try.prog Try.f3 Rows.fnExactDecodeEntryRow.domain false) (Rows.fnExactDecodeEntrySpec.post enc Try.prog Try.f3 false true false false) := by
  refine returnsInHanded_of_change (C := Try.checked) own started (by kernel_rfl) Try.func3
    (ChangeSpec.witness6 (enc := enc) (C := Try.checked) false ⟨#[], #[.slice none 0 0], []⟩ 8 (by kernel_rfl) (by kernel_rfl) (by kernel_rfl) (by kernel_rfl)) ?_
  intro W base args ds gs before hval0 hW hcnd _
  have hval : ∀ (j : Nat) t v, Try.f3.params[j]? = some t → args[j]? = some v → Value.okWide Try.prog W .any base t v := hval0
  have hW' := hW
  obtain ⟨p, q, hA0, hV, rfl, hfz, hnd⟩ := hW
  have hA : DataW.TrodAll enc Try.prog W 0 (fun _ => true) true Try.f3.params.toList args.toList ds p := hA0
  rw [Try.params3] at hA hval
  obtain ⟨v0, vs0, d0, ds0, p0, q0, hargs, rfl, rfl, h0, r0⟩ := trodAll_cons hA
  obtain ⟨rfl, rfl, rfl⟩ := trodAll_nil r0
  obtain rfl : args = #[v0] := by cases args; simp_all
  obtain ⟨rfl, rfl⟩ := trodVars_none hV
  have k0 := h0
  have lt0 : ∀ x ∈ p0, x.block < W.heap.size := by obtain ⟨m, hm⟩ := k0; exact DataW.trod_lt m _ _ _ hm
  obtain ⟨ka, kl, kcp, rfl⟩ := okWide_slice Try.underlying22 (hval 0 22 v0 rfl rfl)
  obtain ⟨xs, hx, hwf⟩ : ∃ xs, View W 0 W.heap.size .u8 (.slice ka kl kcp) xs ∧ ∀ x ∈ xs, (Lit.int .u8 x).wf = true := by obtain ⟨m, hm⟩ := h0; exact view_wf_of_trod Try.underlying22 Try.underlying5 (by kernel_rfl) hm
  clear hA0 hval0
  refine (lawDecodeEntry_walk W (byt_of_wf hwf) hx).mono fun e W' ⟨he, bel⟩ => ?_
  subst he
  exact ⟨_, rfl, _, _, _, [], _, [], hW', trodAll_mk1 (shut_bool Try.underlying4 _), (trodAll_cons_mk (Below.trod laidOut (by kernel_rfl) (of_decide_eq_true (by kernel_rfl)) k0 bel lt0) trodAll_mk0), rfl, bel.frame _, fun h => by cases h⟩

theorem fnExactDecodeEntry_holds : Rows.FnExactDecodeEntrySaid :=
  OpenClaim.holds_of_wide 3 Try.f3 rfl rfl rfl rfl rfl rfl rfl ⟨rfl, rfl, rfl, rfl, rfl⟩ rfl rfl rfl rfl rfl (by kernel_rfl) Try.func3 (by kernel_rfl)
    (of_decide_eq_true (by kernel_rfl)) (by unfold Func.isWrapper; first | (rw [if_pos (by decide +kernel)]; kernel_rfl) | (rw [if_neg (by decide +kernel)]; exact ⟨rfl, rfl⟩))
    (fun os started H enc _ => lawDecodeEntry_lifted os started H enc)
#print axioms fnExactDecodeEntry_holds
end Go.Proofs.Ytallhelhmpbpcaa

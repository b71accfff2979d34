/- The law on EncodeEntry (made by tools/mklaw_ent.py). -/
import Derived.Test.YtpahlcejdhncmaaImplEnt2
import Derived.Test.YtpahlcejdhncmaaOpenEnt
import Derived.Test.YtpahlcejdhncmaaEqB
import Derived.Test.YtpahlcejdhncmaaMarkB
import Derived.Test.YtpahlcejdhncmaaOwn
namespace Go.Proofs.Ytpahlcejdhncmaa
open Go.ChangeShapes Go.WideShapes Go.ChangeAt Go.RowKit

set_option maxRecDepth 20000 in
set_option maxHeartbeats 4000000 in
theorem lawEncodeEntry_walk (w : World) (q : Int) (s : ByteArray) (hz : s.size ≤ 9223372036854775807) :
    Calls Try.prog 3 #[.agg #[.int .i64 q, .string s]] w fun e w' => e = .returned (.bool true) ∧ Below w.heap.size w w' := by
  have hA : Chg 0 0 w (w.alloc (.cells #[.int .i64 q, .string s] 23)) := Chg.alloc (Chg.refl 0 0 w) _
  have B0 := heap_new w (.cells #[.int .i64 q, .string s] 23)
  have s0 : (w.alloc (.cells #[.int .i64 q, .string s] 23)).heap.size = w.heap.size + 1 := by simp
  have HB0 : Hid ((w.alloc (.cells #[.int .i64 q, .string s] 23)).heap[w.heap.size]? = some (.cells #[.int .i64 q, .string s] 23 (0, 0))) := B0
  have HA0 : Hid (Chg 0 0 w (w.alloc (.cells #[.int .i64 q, .string s] 23))) := hA
  clear hA B0
  obtain ⟨q0, q1, _⟩ := two_cells HB0.out
  go_enter Try.func3, Try.ntmps3
  go_wp2_with fail
  clear q0 q1
  generalize w.alloc (.cells #[.int .i64 q, .string s] 23) = w0 at *
  refine (szEntry_calls _ q s 1048576 hz (by omega)).mono ?_
  rintro e w1 ⟨rfl, h1⟩
  have HA1 : Hid (Chg 0 0 w w1) := HA0.out.trans h1
  have s1 := h1.size
  have HB1 : Hid (w1.heap[w.heap.size]? = some (.cells #[.int .i64 q, .string s] 23 (0, 0))) := (h1.block _ (by omega) (by omega)).trans HB0.out
  clear h1 HA0 HB0
  by_cases hl : s.size ≤ 1048576
  case neg =>
    rw [lft_neg hl]
    go_wp2
    go_ret
    exact ⟨rfl, HA1.out.below (by omega)⟩
  rw [lft_pos hl]
  have hlx := encEnt_len q s
  have HS : Hid (∀ w, Calls Try.prog 5 #[.agg #[.int .i64 q, .string s]] w fun e w' => ∃ v, e = .returned v ∧ OwnB w' w.heap.size 5 v (encEnt q s) ∧ Chg 0 0 w w') := fun w => specEncEntry_calls w q s hl
  have HI : Hid (∀ w, Calls Try.prog 7 #[.agg #[.int .i64 q, .string s]] w fun e w' => ∃ v, e = .returned v ∧ OwnB w' w.heap.size 38 v (encEnt q s) ∧ Chg 0 0 w w') := fun w => implEncodeEntry_calls w q s hl
  generalize encEnt q s = X at *
  obtain ⟨q0, q1, q2⟩ := two_cells HB1.out
  go_wp2_with fail
  clear q0 q1 q2
  refine (toEntry_calls _ q s).mono ?_
  rintro e w2 ⟨rfl, h2⟩
  have HA2 : Hid (Chg 0 0 w w2) := HA1.out.trans h2
  have s2 := h2.size
  have HB2 : Hid (w2.heap[w.heap.size]? = some (.cells #[.int .i64 q, .string s] 23 (0, 0))) := (h2.block _ (by omega) (by omega)).trans HB1.out
  clear h2 HA1 HB1
  go_wp2_with fail
  refine (HS.out _).mono ?_
  rintro e w3 ⟨vs, rfl, os, h3⟩
  have HA3 : Hid (Chg 0 0 w w3) := HA2.out.trans h3
  have s3 := h3.size
  have HB3 : Hid (w3.heap[w.heap.size]? = some (.cells #[.int .i64 q, .string s] 23 (0, 0))) := (h3.block _ (by omega) (by omega)).trans HB2.out
  have VS3 : Hid (View w3 w2.heap.size w3.heap.size .u8 vs X) := os.seen (by omega)
  obtain ⟨sa, sl, sc, rfl⟩ := row_slice os
  clear os
  clear h3 HA2 HB2
  obtain ⟨q0, q1, q2⟩ := two_cells HB3.out
  go_wp2_with fail
  clear q0 q1 q2
  refine (toEntry_calls _ q s).mono ?_
  rintro e w4 ⟨rfl, h4⟩
  have HA4 : Hid (Chg 0 0 w w4) := HA3.out.trans h4
  have s4 := h4.size
  have HB4 : Hid (w4.heap[w.heap.size]? = some (.cells #[.int .i64 q, .string s] 23 (0, 0))) := (h4.block _ (by omega) (by omega)).trans HB3.out
  have VS4 : Hid (View w4 w2.heap.size w3.heap.size .u8 (.slice sa sl sc) X) := VS3.out.chg h4 (by omega)
  clear h4 HA3 HB3 VS3
  go_wp2_with fail
  refine (HI.out _).mono ?_
  rintro e w5 ⟨vg, rfl, og, h5⟩
  have HA5 : Hid (Chg 0 0 w w5) := HA4.out.trans h5
  have s5 := h5.size
  have HB5 : Hid (w5.heap[w.heap.size]? = some (.cells #[.int .i64 q, .string s] 23 (0, 0))) := (h5.block _ (by omega) (by omega)).trans HB4.out
  have VS5 : Hid (View w5 w2.heap.size w3.heap.size .u8 (.slice sa sl sc) X) := VS4.out.chg h5 (by omega)
  have VG5 : Hid (View w5 w4.heap.size w5.heap.size .u8 vg X) := og.seen (by omega)
  obtain ⟨ga, gl, gc, rfl⟩ := row_slice og
  have HG5 : Hid (OwnB w5 w4.heap.size 38 (.slice ga gl gc) X) := og
  have GB : Hid (∀ g, (Value.slice ga gl gc).ownBlock = some g → w4.heap.size ≤ g ∧ g < w5.heap.size) := fun g hg => og.lt g hg
  clear og
  clear h5 HA4 HB4 VS4
  go_wp2_with fail
  refine (eqByteS_calls _ VG5.out VS5.out).mono ?_
  rintro e w6 ⟨rfl, h6⟩
  have h6 := h6.chg 0 0
  have HA6 : Hid (Chg 0 0 w w6) := HA5.out.trans h6
  have s6 := h6.size
  have HB6 : Hid (w6.heap[w.heap.size]? = some (.cells #[.int .i64 q, .string s] 23 (0, 0))) := (h6.block _ (by omega) (by omega)).trans HB5.out
  have VS6 : Hid (View w6 w2.heap.size w3.heap.size .u8 (.slice sa sl sc) X) := VS5.out.chg h6 (by omega)
  have HG6 : Hid (OwnB w6 w4.heap.size 38 (.slice ga gl gc) X) := HG5.out.chg h6 (fun g hg => by have := (HG5.out.lt g hg); omega)
  clear h6 HA5 HB5 VS5 VG5 HG5
  go_wp2_with fail
  refine (markByteS_calls _ _ _ _ _ 1 w4.heap.size w5.heap.size (by omega) (by omega) HG6.out GB.out).mono ?_
  rintro e w7 ⟨rfl, om, h7, _, _⟩
  have HA7 : Hid (Chg 0 0 w w7) := HA6.out.step h7 (by have := HA6.out.size; omega)
  have s7 := h7.size
  have HB7 : Hid (w7.heap[w.heap.size]? = some (.cells #[.int .i64 q, .string s] 23 (0, 0))) := (h7.block _ (by omega) (by omega)).trans HB6.out
  have VS7 : Hid (View w7 w2.heap.size w3.heap.size .u8 (.slice sa sl sc) X) := VS6.out.chg h7 (by omega)
  have VM7 : Hid (View w7 w4.heap.size w7.heap.size .u8 (.slice ga gl gc) (marks 1 X.length)) := om.seen (by rw [marks_length]; omega)
  clear om
  clear h7 HA6 HB6 VS6 HG6
  go_wp2_with fail
  refine (heldByteS_calls _ 1 _ (by omega) VM7.out).mono ?_
  rintro e w8 ⟨rfl, h8⟩
  have h8 := h8.chg 0 0
  have HA8 : Hid (Chg 0 0 w w8) := HA7.out.trans h8
  have s8 := h8.size
  have HB8 : Hid (w8.heap[w.heap.size]? = some (.cells #[.int .i64 q, .string s] 23 (0, 0))) := (h8.block _ (by omega) (by omega)).trans HB7.out
  have VS8 : Hid (View w8 w2.heap.size w3.heap.size .u8 (.slice sa sl sc) X) := VS7.out.chg h8 (by omega)
  clear h8 HA7 HB7 VS7 VM7
  have hk0 : ¬ (((1 + X.length : Nat) : Int) < 0) := by omega
  have hne : (((1 + X.length : Nat) : Int) != ((1 + X.length : Nat) : Int)) = false := by simp
  obtain ⟨q0, q1, q2⟩ := two_cells HB8.out
  go_wp2_with fail
  clear q0 q1 q2
  clear hk0 hne
  refine (toEntry_calls _ q s).mono ?_
  rintro e w9 ⟨rfl, h9⟩
  have HA9 : Hid (Chg 0 0 w w9) := HA8.out.trans h9
  have s9 := h9.size
  have HB9 : Hid (w9.heap[w.heap.size]? = some (.cells #[.int .i64 q, .string s] 23 (0, 0))) := (h9.block _ (by omega) (by omega)).trans HB8.out
  have VS9 : Hid (View w9 w2.heap.size w3.heap.size .u8 (.slice sa sl sc) X) := VS8.out.chg h9 (by omega)
  clear h9 HA8 HB8 VS8
  go_wp2_with fail
  refine (HI.out _).mono ?_
  rintro e w10 ⟨vh, rfl, oh, h10⟩
  have HA10 : Hid (Chg 0 0 w w10) := HA9.out.trans h10
  have s10 := h10.size
  have HB10 : Hid (w10.heap[w.heap.size]? = some (.cells #[.int .i64 q, .string s] 23 (0, 0))) := (h10.block _ (by omega) (by omega)).trans HB9.out
  have VS10 : Hid (View w10 w2.heap.size w3.heap.size .u8 (.slice sa sl sc) X) := VS9.out.chg h10 (by omega)
  have VH10 : Hid (View w10 w9.heap.size w10.heap.size .u8 vh X) := oh.seen (by omega)
  obtain ⟨ha, hl2, hc2, rfl⟩ := row_slice oh
  clear oh
  clear h10 HA9 HB9 VS9
  go_wp2_with fail
  refine (eqByteS_calls _ VH10.out VS10.out).mono ?_
  rintro e w11 ⟨rfl, h11⟩
  have h11 := h11.chg 0 0
  have HA11 : Hid (Chg 0 0 w w11) := HA10.out.trans h11
  have s11 := h11.size
  have HB11 : Hid (w11.heap[w.heap.size]? = some (.cells #[.int .i64 q, .string s] 23 (0, 0))) := (h11.block _ (by omega) (by omega)).trans HB10.out
  have VS11 : Hid (View w11 w2.heap.size w3.heap.size .u8 (.slice sa sl sc) X) := VS10.out.chg h11 (by omega)
  have VH11 : Hid (View w11 w9.heap.size w10.heap.size .u8 (.slice ha hl2 hc2) X) := VH10.out.chg h11 (by omega)
  clear h11 HA10 HB10 VS10 VH10
  go_wp2
  go_ret
  exact ⟨rfl, HA11.out.below (by omega)⟩

set_option maxRecDepth 20000 in
theorem ent_of_trod {H : Type} {enc : TypeId × Value → H} {W : World} {base : Nat} {v : Value} {dd : DataW H} {p : List MemPlace} (hv : Value.okWide Try.prog W .any base 23 v)
    (h : DataW.Trod enc Try.prog W 0 (fun _ => true) true 23 v dd p) : ∃ (q : Int) (s : ByteArray), v = .agg #[.int .i64 q, .string s] ∧ s.size ≤ 9223372036854775807 := by
  obtain ⟨cs, rfl, hsz⟩ := okWide_struct Try.underlying23 hv
  obtain ⟨c0, c1, rfl⟩ : ∃ c0 c1, cs = #[c0, c1] := by
    have h5 : cs.size = 2 := hsz.trans (by kernel_rfl)
    obtain ⟨l⟩ := cs
    match l, h5 with
    | [c0, c1], _ => exact ⟨c0, c1, rfl⟩
  obtain ⟨fuel, hf⟩ := h
  obtain ⟨xs, n, _, _, _, hlen, hx⟩ := DataW.trod_struct Try.underlying23 hf
  match xs, hlen with
  | [y0, y1], _ =>
  have hc : Try.prog.cellsOf 2 = 1 := by kernel_rfl
  have hc2 : Try.prog.cellsOf 9 = 1 := by kernel_rfl
  have t0 : DataW.trod enc Try.prog W 0 (fun _ => true) true n 2 [c0] = some y0 := by have := hx 0 _ rfl; simpa [hc, Value.cells] using this
  have t1 : DataW.trod enc Try.prog W 0 (fun _ => true) true n 9 [c1] = some y1 := by have := hx 1 _ rfl; simpa [hc2, Value.cells] using this
  obtain ⟨q0, h0, _⟩ := DataW.trod_int Try.underlying2 t0
  obtain ⟨s, hs, _, hz⟩ := DataW.trod_string Try.underlying9 t1
  simp at h0 hs
  exact ⟨q0, s, by rw [h0, hs], by unfold maxLen at hz; omega⟩

set_option maxRecDepth 100000 in
theorem lawEncodeEntry_lifted (os : Os) (started : os.Started) (H : Type) (enc : TypeId × Value → H) :
    ReturnsInHanded {} Try.checked os 3 .any (Rows.fnExactEncodeEntrySpec.pre6 enc Try.prog Try.f3 Rows.fnExactEncodeEntryRow.domain false) (Rows.fnExactEncodeEntrySpec.post enc Try.prog Try.f3 false true false false) := by
  refine returnsInHanded_of_change (C := Try.checked) own started (by kernel_rfl) Try.func3
    (ChangeSpec.witness6 (enc := enc) (C := Try.checked) false ⟨#[], #[.agg #[.int .i64 0, .string ⟨#[]⟩]], []⟩ 8 (by kernel_rfl) (by kernel_rfl) (by kernel_rfl) (by kernel_rfl)) ?_
  intro W base args ds gs before hval0 hW hcnd _
  have hval : ∀ (j : Nat) t v, Try.f3.params[j]? = some t → args[j]? = some v → Value.okWide Try.prog W .any base t v := hval0
  have hW' := hW
  obtain ⟨p, q, hA0, hV, rfl, hfz, hnd⟩ := hW
  have hA : DataW.TrodAll enc Try.prog W 0 (fun _ => true) true Try.f3.params.toList args.toList ds p := hA0
  rw [Try.params3] at hA hval
  obtain ⟨v0, vs0, d0, ds0, p0, q0, hargs, rfl, rfl, h0, r0⟩ := trodAll_cons hA
  obtain ⟨rfl, rfl, rfl⟩ := trodAll_nil r0
  obtain rfl : args = #[v0] := by cases args; simp_all
  obtain ⟨rfl, rfl⟩ := trodVars_none hV
  have k0 := h0
  have lt0 : ∀ x ∈ p0, x.block < W.heap.size := by obtain ⟨m, hm⟩ := k0; exact DataW.trod_lt m _ _ _ hm
  obtain ⟨q, s, rfl, hz⟩ := ent_of_trod (hval 0 23 v0 rfl rfl) h0
  clear hA0 hval0
  refine (lawEncodeEntry_walk W q s hz).mono fun e W' ⟨he, bel⟩ => ?_
  subst he
  exact ⟨_, rfl, _, _, _, [], _, [], hW', trodAll_mk1 (shut_bool Try.underlying4 _), (trodAll_cons_mk (Below.trod laidOut (by kernel_rfl) (of_decide_eq_true (by kernel_rfl)) k0 bel lt0) trodAll_mk0), rfl, bel.frame _, fun h => by cases h⟩

theorem fnExactEncodeEntry_holds : Rows.FnExactEncodeEntrySaid :=
  OpenClaim.holds_of_wide 3 Try.f3 rfl rfl rfl rfl rfl rfl rfl ⟨rfl, rfl, rfl, rfl, rfl⟩ rfl rfl rfl rfl rfl (by kernel_rfl) Try.func3 (by kernel_rfl)
    (of_decide_eq_true (by kernel_rfl)) (by unfold Func.isWrapper; first | (rw [if_pos (by decide +kernel)]; kernel_rfl) | (rw [if_neg (by decide +kernel)]; exact ⟨rfl, rfl⟩))
    (fun os started H enc _ => lawEncodeEntry_lifted os started H enc)
#print axioms fnExactEncodeEntry_holds
end Go.Proofs.Ytpahlcejdhncmaa

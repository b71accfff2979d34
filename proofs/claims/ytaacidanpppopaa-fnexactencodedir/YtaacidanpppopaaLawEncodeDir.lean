/- The law on EncodeDir (made by tools/mklaw_ent.py). -/
import Derived.Test.YtaacidanpppopaaImplEnt3
import Derived.Test.YtaacidanpppopaaEntTo
import Derived.Test.YtaacidanpppopaaEntMark
import Derived.Test.YtaacidanpppopaaOpenEnt
import Derived.Test.YtaacidanpppopaaEqB
import Derived.Test.YtaacidanpppopaaMarkB
import Derived.Test.YtaacidanpppopaaOwn
namespace Go.Proofs.Ytaacidanpppopaa
open Go.ChangeShapes Go.WideShapes Go.ChangeAt Go.RowKit

theorem OwnE.seen {w : World} {base : Nat} {e : TypeId} {v : Value} {ts : List Ent} (h : OwnE w base e v ts) (hl : ts.length ≤ 1048576) : EView w base w.heap.size v ts :=
  h.view (by omega) (fun g hg => (h.lt g hg).2)

set_option maxRecDepth 20000 in
set_option maxHeartbeats 4000000 in
theorem lawEncodeDir_walk (w : World) {hi : Nat} {a : Value} {ts : List Ent} (hz : Sized ts) (h1 : EView w 0 hi a ts) :
    Calls Try.prog 3 #[a] w fun e w' => e = .returned (.bool true) ∧ Below w.heap.size w w' := by
  have V0 : Hid (EView w 0 hi a ts) := h1
  obtain ⟨ao, cap, rfl⟩ := h1.slice
  have HA0 : Hid (Chg 0 0 w w) := Chg.refl 0 0 w
  go_enter Try.func3, Try.ntmps3
  go_wp2_with fail
  refine (szEntryS_calls _ ts 1048576 (by omega) hz V0.out).mono ?_
  rintro e w1 ⟨rfl, h1⟩
  have HA1 : Hid (Chg 0 0 w w1) := HA0.out.trans h1
  have s1 := h1.size
  clear h1 HA0
  by_cases hl : cntE ts ≤ 1048576
  case neg =>
    rw [lft_neg hl]
    go_wp2
    go_ret
    exact ⟨rfl, HA1.out.below (by omega)⟩
  rw [lft_pos hl]
  have hle := cntE_ge ts
  have hlx := encDir_len ts
  have HS : Hid (∀ (w : World) (lo hi : Nat) (v : Value), EView w lo hi v ts → Calls Try.prog 5 #[v] w fun e w' => ∃ v, e = .returned v ∧ OwnB w' w.heap.size 5 v (encDir ts) ∧ Chg 0 0 w w') := fun w lo hi v h => specEncDir_calls w hl h
  have HI : Hid (∀ (w : World) (lo hi : Nat) (v : Value), EView w lo hi v ts → Calls Try.prog 7 #[v] w fun e w' => ∃ v, e = .returned v ∧ OwnB w' w.heap.size 5 v (encDir ts) ∧ Chg 0 0 w w') := fun w lo hi v h => implEncodeDir_calls w hl h
  generalize encDir ts = X at *
  go_wp2_with fail
  refine (toEntryS_calls _ hl (V0.out.chg HA1.out (by omega))).mono ?_
  rintro e w2 ⟨g2, rfl, o2, h2⟩
  have HA2 : Hid (Chg 0 0 w w2) := HA1.out.trans h2
  have s2 := h2.size
  have VX2 : Hid (EView w2 w1.heap.size w2.heap.size (.slice (some ⟨g2, 0, none⟩) ts.length ts.length) ts) := o2.seen (by omega)
  clear o2
  clear h2 HA1
  go_wp2_with fail
  refine (HS.out _ _ _ _ VX2.out).mono ?_
  rintro e w3 ⟨vs, rfl, os, h3⟩
  have HA3 : Hid (Chg 0 0 w w3) := HA2.out.trans h3
  have s3 := h3.size
  have VS3 : Hid (View w3 w2.heap.size w3.heap.size .u8 vs X) := os.seen (by omega)
  obtain ⟨sa, sl, sc, rfl⟩ := row_slice os
  clear os
  clear h3 HA2 VX2
  go_wp2_with fail
  refine (toEntryS_calls _ hl (V0.out.chg HA3.out (by omega))).mono ?_
  rintro e w4 ⟨g4, rfl, o4, h4⟩
  have HA4 : Hid (Chg 0 0 w w4) := HA3.out.trans h4
  have s4 := h4.size
  have VS4 : Hid (View w4 w2.heap.size w3.heap.size .u8 (.slice sa sl sc) X) := VS3.out.chg h4 (by omega)
  have HX4 : Hid (OwnE w4 w3.heap.size 37 (.slice (some ⟨g4, 0, none⟩) ts.length ts.length) ts) := o4
  have XB : Hid (∀ g, (Value.slice (some ⟨g4, 0, none⟩) ts.length ts.length).ownBlock = some g → w3.heap.size ≤ g ∧ g < w4.heap.size) := fun g hg => o4.lt g hg
  have VY4 : Hid (EView w4 w3.heap.size w4.heap.size (.slice (some ⟨g4, 0, none⟩) ts.length ts.length) ts) := o4.seen (by omega)
  clear o4
  clear h4 HA3 VS3
  go_wp2_with fail
  refine (HI.out _ _ _ _ VY4.out).mono ?_
  rintro e w5 ⟨vg, rfl, og, h5⟩
  have HA5 : Hid (Chg 0 0 w w5) := HA4.out.trans h5
  have s5 := h5.size
  have VS5 : Hid (View w5 w2.heap.size w3.heap.size .u8 (.slice sa sl sc) X) := VS4.out.chg h5 (by omega)
  have VY5 : Hid (EView w5 w3.heap.size w4.heap.size (.slice (some ⟨g4, 0, none⟩) ts.length ts.length) ts) := VY4.out.chg h5 (by omega)
  have HX5 : Hid (OwnE w5 w3.heap.size 37 (.slice (some ⟨g4, 0, none⟩) ts.length ts.length) ts) := HX4.out.chg h5 (fun g hg => by have := (HX4.out.lt g hg); omega)
  have VG5 : Hid (View w5 w4.heap.size w5.heap.size .u8 vg X) := og.seen (by omega)
  obtain ⟨ga, gl, gc, rfl⟩ := row_slice og
  have HG5 : Hid (OwnB w5 w4.heap.size 5 (.slice ga gl gc) X) := og
  have GB : Hid (∀ g, (Value.slice ga gl gc).ownBlock = some g → w4.heap.size ≤ g ∧ g < w5.heap.size) := fun g hg => og.lt g hg
  clear og
  clear h5 HA4 VS4 VY4 HX4
  go_wp2_with fail
  refine (eqByteS_calls _ VG5.out VS5.out).mono ?_
  rintro e w6 ⟨rfl, h6⟩
  have h6 := h6.chg 0 0
  have HA6 : Hid (Chg 0 0 w w6) := HA5.out.trans h6
  have s6 := h6.size
  have VS6 : Hid (View w6 w2.heap.size w3.heap.size .u8 (.slice sa sl sc) X) := VS5.out.chg h6 (by omega)
  have VY6 : Hid (EView w6 w3.heap.size w4.heap.size (.slice (some ⟨g4, 0, none⟩) ts.length ts.length) ts) := VY5.out.chg h6 (by omega)
  have VG6 : Hid (View w6 w4.heap.size w5.heap.size .u8 (.slice ga gl gc) X) := VG5.out.chg h6 (by omega)
  have HX6 : Hid (OwnE w6 w3.heap.size 37 (.slice (some ⟨g4, 0, none⟩) ts.length ts.length) ts) := HX5.out.chg h6 (fun g hg => by have := (HX5.out.lt g hg); omega)
  have HG6 : Hid (OwnB w6 w4.heap.size 5 (.slice ga gl gc) X) := HG5.out.chg h6 (fun g hg => by have := (HG5.out.lt g hg); omega)
  clear h6 HA5 VS5 VY5 VG5 HX5 HG5
  go_wp2_with fail
  refine (toEntryS_calls _ hl (V0.out.chg HA6.out (by omega))).mono ?_
  rintro e w7 ⟨g7, rfl, o7, h7⟩
  have HA7 : Hid (Chg 0 0 w w7) := HA6.out.trans h7
  have s7 := h7.size
  have VS7 : Hid (View w7 w2.heap.size w3.heap.size .u8 (.slice sa sl sc) X) := VS6.out.chg h7 (by omega)
  have VY7 : Hid (EView w7 w3.heap.size w4.heap.size (.slice (some ⟨g4, 0, none⟩) ts.length ts.length) ts) := VY6.out.chg h7 (by omega)
  have VG7 : Hid (View w7 w4.heap.size w5.heap.size .u8 (.slice ga gl gc) X) := VG6.out.chg h7 (by omega)
  have HX7 : Hid (OwnE w7 w3.heap.size 37 (.slice (some ⟨g4, 0, none⟩) ts.length ts.length) ts) := HX6.out.chg h7 (fun g hg => by have := (HX6.out.lt g hg); omega)
  have HG7 : Hid (OwnB w7 w4.heap.size 5 (.slice ga gl gc) X) := HG6.out.chg h7 (fun g hg => by have := (HG6.out.lt g hg); omega)
  have VZ7 : Hid (EView w7 w6.heap.size w7.heap.size (.slice (some ⟨g7, 0, none⟩) ts.length ts.length) ts) := o7.seen (by omega)
  clear o7
  clear h7 HA6 VS6 VY6 VG6 HX6 HG6
  go_wp2_with fail
  refine (eqEntryS_calls _ VY7.out VZ7.out).mono ?_
  rintro e w8 ⟨rfl, h8⟩
  have HA8 : Hid (Chg 0 0 w w8) := HA7.out.trans h8
  have s8 := h8.size
  have VS8 : Hid (View w8 w2.heap.size w3.heap.size .u8 (.slice sa sl sc) X) := VS7.out.chg h8 (by omega)
  have VG8 : Hid (View w8 w4.heap.size w5.heap.size .u8 (.slice ga gl gc) X) := VG7.out.chg h8 (by omega)
  have HX8 : Hid (OwnE w8 w3.heap.size 37 (.slice (some ⟨g4, 0, none⟩) ts.length ts.length) ts) := HX7.out.chg h8 (fun g hg => by have := (HX7.out.lt g hg); omega)
  have HG8 : Hid (OwnB w8 w4.heap.size 5 (.slice ga gl gc) X) := HG7.out.chg h8 (fun g hg => by have := (HG7.out.lt g hg); omega)
  clear h8 HA7 VS7 VY7 VG7 VZ7 HX7 HG7
  go_wp2_with fail
  refine (markEntryS_calls _ w3.heap.size 37 _ ts 1 w3.heap.size w4.heap.size (by omega) (by omega) (by omega) HX8.out XB.out).mono ?_
  rintro e w9 ⟨rfl, om9, h9⟩
  have HA9 : Hid (Chg 0 0 w w9) := HA8.out.step h9 (by have := HA8.out.size; omega)
  have s9 := h9.size
  have VS9 : Hid (View w9 w2.heap.size w3.heap.size .u8 (.slice sa sl sc) X) := VS8.out.chg h9 (by omega)
  have VG9 : Hid (View w9 w4.heap.size w5.heap.size .u8 (.slice ga gl gc) X) := VG8.out.chg h9 (by omega)
  have HG9 : Hid (OwnB w9 w4.heap.size 5 (.slice ga gl gc) X) := HG8.out.chg h9 (fun g hg => by have := (HG8.out.lt g hg); omega)
  clear h9 HA8 VS8 VG8 HX8 HG8
  have hk0 : ¬ (((1 + 2 * ts.length : Nat) : Int) < 0) := by omega
  go_wp2_with fail
  refine (eqByteS_calls _ VG9.out VS9.out).mono ?_
  rintro e w10 ⟨rfl, h10⟩
  have h10 := h10.chg 0 0
  have HA10 : Hid (Chg 0 0 w w10) := HA9.out.trans h10
  have s10 := h10.size
  have VS10 : Hid (View w10 w2.heap.size w3.heap.size .u8 (.slice sa sl sc) X) := VS9.out.chg h10 (by omega)
  have HG10 : Hid (OwnB w10 w4.heap.size 5 (.slice ga gl gc) X) := HG9.out.chg h10 (fun g hg => by have := (HG9.out.lt g hg); omega)
  clear h10 HA9 VS9 VG9 HG9
  clear hk0
  go_wp2_with fail
  refine (markByteS_calls _ _ _ _ _ 1 w4.heap.size w5.heap.size (by omega) (by omega) HG10.out GB.out).mono ?_
  rintro e w11 ⟨rfl, om, h11, _, _⟩
  have HA11 : Hid (Chg 0 0 w w11) := HA10.out.step h11 (by have := HA10.out.size; omega)
  have s11 := h11.size
  have VS11 : Hid (View w11 w2.heap.size w3.heap.size .u8 (.slice sa sl sc) X) := VS10.out.chg h11 (by omega)
  have VM11 : Hid (View w11 w4.heap.size w11.heap.size .u8 (.slice ga gl gc) (marks 1 X.length)) := om.seen (by rw [marks_length]; omega)
  clear om
  clear h11 HA10 VS10 HG10
  go_wp2_with fail
  refine (heldByteS_calls _ 1 _ (by omega) VM11.out).mono ?_
  rintro e w12 ⟨rfl, h12⟩
  have h12 := h12.chg 0 0
  have HA12 : Hid (Chg 0 0 w w12) := HA11.out.trans h12
  have s12 := h12.size
  have VS12 : Hid (View w12 w2.heap.size w3.heap.size .u8 (.slice sa sl sc) X) := VS11.out.chg h12 (by omega)
  clear h12 HA11 VS11 VM11
  have hk0 : ¬ (((1 + X.length : Nat) : Int) < 0) := by omega
  have hne : (((1 + X.length : Nat) : Int) != ((1 + X.length : Nat) : Int)) = false := by simp
  go_wp2_with fail
  clear hk0 hne
  refine (toEntryS_calls _ hl (V0.out.chg HA12.out (by omega))).mono ?_
  rintro e w13 ⟨g13, rfl, o13, h13⟩
  have HA13 : Hid (Chg 0 0 w w13) := HA12.out.trans h13
  have s13 := h13.size
  have VS13 : Hid (View w13 w2.heap.size w3.heap.size .u8 (.slice sa sl sc) X) := VS12.out.chg h13 (by omega)
  have VZ13 : Hid (EView w13 w12.heap.size w13.heap.size (.slice (some ⟨g13, 0, none⟩) ts.length ts.length) ts) := o13.seen (by omega)
  clear o13
  clear h13 HA12 VS12
  go_wp2_with fail
  refine (HI.out _ _ _ _ VZ13.out).mono ?_
  rintro e w14 ⟨vh, rfl, oh, h14⟩
  have HA14 : Hid (Chg 0 0 w w14) := HA13.out.trans h14
  have s14 := h14.size
  have VS14 : Hid (View w14 w2.heap.size w3.heap.size .u8 (.slice sa sl sc) X) := VS13.out.chg h14 (by omega)
  have VH14 : Hid (View w14 w13.heap.size w14.heap.size .u8 vh X) := oh.seen (by omega)
  obtain ⟨ha, hl2, hc2, rfl⟩ := row_slice oh
  clear oh
  clear h14 HA13 VS13 VZ13
  go_wp2_with fail
  refine (eqByteS_calls _ VH14.out VS14.out).mono ?_
  rintro e w15 ⟨rfl, h15⟩
  have h15 := h15.chg 0 0
  have HA15 : Hid (Chg 0 0 w w15) := HA14.out.trans h15
  have s15 := h15.size
  have VS15 : Hid (View w15 w2.heap.size w3.heap.size .u8 (.slice sa sl sc) X) := VS14.out.chg h15 (by omega)
  have VH15 : Hid (View w15 w13.heap.size w14.heap.size .u8 (.slice ha hl2 hc2) X) := VH14.out.chg h15 (by omega)
  clear h15 HA14 VS14 VH14
  go_wp2
  go_ret
  exact ⟨rfl, HA15.out.below (by omega)⟩

set_option maxRecDepth 100000 in
theorem lawEncodeDir_lifted (os : Os) (started : os.Started) (H : Type) (enc : TypeId × Value → H) :
    ReturnsInHanded {} Try.checked os 3 .any (Rows.fnExactEncodeDirSpec.pre6 enc Try.prog Try.f3 Rows.fnExactEncodeDirRow.domain false) (Rows.fnExactEncodeDirSpec.post enc Try.prog Try.f3 false true false false) := by
  refine returnsInHanded_of_change (C := Try.checked) own started (by kernel_rfl) Try.func3
    (ChangeSpec.witness6 (enc := enc) (C := Try.checked) false ⟨#[], #[.slice none 0 0], []⟩ 8 (by kernel_rfl) (by kernel_rfl) (by kernel_rfl) (by kernel_rfl)) ?_
  intro W base args ds gs before hval0 hW hcnd _
  have hval : ∀ (j : Nat) t v, Try.f3.params[j]? = some t → args[j]? = some v → Value.okWide Try.prog W .any base t v := hval0
  have hW' := hW
  obtain ⟨p, q, hA0, hV, rfl, hfz, hnd⟩ := hW
  have hA : DataW.TrodAll enc Try.prog W 0 (fun _ => true) true Try.f3.params.toList args.toList ds p := hA0
  rw [Try.params3] at hA hval
  obtain ⟨v0, vs0, d0, ds0, p0, q0, hargs, rfl, rfl, h0, r0⟩ := trodAll_cons hA
  obtain ⟨rfl, rfl, rfl⟩ := trodAll_nil r0
  obtain rfl : args = #[v0] := by cases args; simp_all
  obtain ⟨rfl, rfl⟩ := trodVars_none hV
  have k0 := h0
  have lt0 : ∀ x ∈ p0, x.block < W.heap.size := by obtain ⟨m, hm⟩ := k0; exact DataW.trod_lt m _ _ _ hm
  obtain ⟨ka, kl, kcp, rfl⟩ := okWide_slice Try.underlying22 (hval 0 22 v0 rfl rfl)
  obtain ⟨ts, hT, hz⟩ : ∃ ts, EView W 0 W.heap.size (.slice ka kl kcp) ts ∧ Sized ts := by obtain ⟨m, hm⟩ := h0; exact eview_of_trod hm
  clear hA0 hval0
  refine (lawEncodeDir_walk W hz hT).mono fun e W' ⟨he, bel⟩ => ?_
  subst he
  exact ⟨_, rfl, _, _, _, [], _, [], hW', trodAll_mk1 (shut_bool Try.underlying4 _), (trodAll_cons_mk (Below.trod laidOut (by kernel_rfl) (of_decide_eq_true (by kernel_rfl)) k0 bel lt0) trodAll_mk0), rfl, bel.frame _, fun h => by cases h⟩

theorem fnExactEncodeDir_holds : Rows.FnExactEncodeDirSaid :=
  OpenClaim.holds_of_wide 3 Try.f3 rfl rfl rfl rfl rfl rfl rfl ⟨rfl, rfl, rfl, rfl, rfl⟩ rfl rfl rfl rfl rfl (by kernel_rfl) Try.func3 (by kernel_rfl)
    (of_decide_eq_true (by kernel_rfl)) (by unfold Func.isWrapper; first | (rw [if_pos (by decide +kernel)]; kernel_rfl) | (rw [if_neg (by decide +kernel)]; exact ⟨rfl, rfl⟩))
    (fun os started H enc _ => lawEncodeDir_lifted os started H enc)
#print axioms fnExactEncodeDir_holds
end Go.Proofs.Ytaacidanpppopaa

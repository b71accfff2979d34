/- The law on DirFind. -/
import Derived.Test.YtnodnpphiigcgaaImplFind
import Derived.Test.YtnodnpphiigcgaaEntTo
import Derived.Test.YtnodnpphiigcgaaOpenEnt
import Derived.ChangeMaps5
namespace Go.Proofs.Ytnodnpphiigcgaa
open Go.ChangeShapes Go.WideShapes Go.ChangeAt Go.RowKit Go.ChangeMaps

set_option maxRecDepth 20000 in
set_option maxHeartbeats 2000000 in
theorem lawDirFind_walk (w : World) {a : Value} {ts : List Ent} (s : ByteArray) (hz : Sized ts) (_hs : s.size ≤ 9223372036854775807) (h1 : EView w 0 w.heap.size a ts) :
    Calls Try.prog 3 #[a, .string s] w fun e w' => e = .returned (.bool true) ∧ Below w.heap.size w w' := by
  have HT : Hid (EView w 0 w.heap.size a ts) := h1
  obtain ⟨ao, cap, rfl⟩ := h1.slice
  have hN := szEntryS_calls w ts 1048576 (by omega) hz h1
  clear h1
  by_cases hls : s.size ≤ 1048576
  case neg =>
    have hbig : (1048576 : Int) < (s.size : Int) := by omega
    clear hN
    go_enter Try.func3, Try.ntmps3
    go_wp2
    go_ret
    exact ⟨rfl, (Chg.refl 0 0 w).below (by omega)⟩
  have hsm : ¬ (1048576 : Int) < (s.size : Int) := by omega
  go_enter Try.func3, Try.ntmps3
  go_wp2_with fail
  refine hN.mono ?_
  rintro e w1 ⟨rfl, h1⟩
  have HA1 : Hid (Chg 0 0 w w1) := h1
  have s1 := h1.size
  clear hN h1
  by_cases hl : cntE ts ≤ 1048576
  case neg =>
    rw [lft_neg hl]
    clear hl
    go_wp2
    go_ret
    exact ⟨rfl, HA1.out.below (by omega)⟩
  rw [lft_pos hl]
  have Hl : Hid (cntE ts ≤ 1048576) := hl
  have hp : ¬ ((1048576 - cntE ts : Nat) : Int) < 0 := by omega
  have hlen : ts.length ≤ 1048576 := Nat.le_trans (cntE_ge ts) hl
  clear hl
  generalize 1048576 - cntE ts = lf at *
  have hN := toEntryS_calls w1 Hl.out (HT.out.chg HA1.out (by omega))
  go_wp2_with fail
  refine hN.mono ?_
  rintro e w2 ⟨g, rfl, tv, h2⟩
  have HA2 : Hid (Chg 0 0 w w2) := HA1.out.trans h2
  have s2 := h2.size
  have hN2 := specDirFind_calls w2 s hlen (tv.view (by omega) (hi := w2.heap.size) (fun g hg => (tv.lt g hg).2))
  clear hN tv h2
  go_wp2_with fail
  refine hN2.mono ?_
  rintro e w3 ⟨rfl, h3⟩
  have HA3 : Hid (Chg 0 0 w w3) := HA2.out.trans h3
  have s3 := h3.size
  obtain ⟨bv, Hbv⟩ : ∃ b, Hid (b = findD ts s) := ⟨_, rfl⟩
  rw [← Hbv.out]
  clear hN2 h3
  have hN := toEntryS_calls w3 Hl.out (HT.out.chg HA3.out (by omega))
  go_wp2_with fail
  refine hN.mono ?_
  rintro e w4 ⟨g4, rfl, tv, h4⟩
  have s4 := h4.size
  have HA4 : Hid (Chg 0 0 w w4) := HA3.out.trans h4
  have HTX : Hid (EView w4 w3.heap.size w4.heap.size (.slice (some ⟨g4, 0, none⟩) ts.length ts.length) ts) := tv.view (by omega) (fun g hg => (tv.lt g hg).2)
  have hN2 := implDirFind_calls w4 s hlen (fun j hj => Nat.le_trans (cntE_at hj) Hl.out) hls HTX.out
  rw [← Hbv.out] at hN2
  clear hN tv h4
  go_wp2_with fail
  refine hN2.mono ?_
  rintro e w6 ⟨rfl, h6⟩
  have s6 := h6.size
  have HA6 : Hid (Chg 0 0 w w6) := HA4.out.trans h6
  have HTX6 : Hid (EView w6 w3.heap.size w4.heap.size (.slice (some ⟨g4, 0, none⟩) ts.length ts.length) ts) := HTX.out.chg h6 (by omega)
  have hne : (bv != bv) = false := by simp
  have hN := toEntryS_calls w6 Hl.out (HT.out.chg HA6.out (by omega))
  clear hN2 h6
  go_wp2_with fail
  refine hN.mono ?_
  rintro e w7 ⟨g7, rfl, zt, h7⟩
  have hN2 := eqEntryS_calls w7 (HTX6.out.chg h7 (by omega)) (zt.view (by omega) (hi := w7.heap.size) (fun g hg => (zt.lt g hg).2))
  have HA7 : Hid (Chg 0 0 w w7) := HA6.out.trans h7
  clear hN zt h7
  go_wp2_with fail
  refine hN2.mono ?_
  rintro e w8 ⟨rfl, h8⟩
  have HA8 : Hid (Chg 0 0 w w8) := HA7.out.trans h8
  clear h8 hN2
  go_wp2
  go_ret
  exact ⟨rfl, HA8.out.below (by omega)⟩

set_option maxRecDepth 100000 in
theorem lawDirFind_lifted (os : Os) (started : os.Started) (H : Type) (enc : TypeId × Value → H) :
    ReturnsInHanded {} Try.checked os 3 .any (Rows.fnExactDirFindSpec.pre6 enc Try.prog Try.f3 Rows.fnExactDirFindRow.domain false) (Rows.fnExactDirFindSpec.post enc Try.prog Try.f3 false true false false) := by
  refine returnsInHanded_of_change (C := Try.checked) own started (by kernel_rfl) Try.func3
    (ChangeSpec.witness6 (enc := enc) (C := Try.checked) false ⟨#[], #[.slice none 0 0, .string ⟨#[]⟩], []⟩ 8 (by kernel_rfl) (by kernel_rfl) (by kernel_rfl) (by kernel_rfl)) ?_
  intro W base args ds gs before hval0 hW hcnd _
  have hval : ∀ (j : Nat) t v, Try.f3.params[j]? = some t → args[j]? = some v → Value.okWide Try.prog W .any base t v := hval0
  have hW' := hW
  obtain ⟨p, q, hA0, hV, rfl, hfz, hnd⟩ := hW
  have hA : DataW.TrodAll enc Try.prog W 0 (fun _ => true) true Try.f3.params.toList args.toList ds p := hA0
  rw [Try.params3] at hA hval
  obtain ⟨v0, vs0, d0, ds0, p0, q0, hargs, rfl, rfl, h0, r0⟩ := trodAll_cons hA
  obtain ⟨v1, vs1, d1, ds1, p1, q1, rfl, rfl, rfl, h1, r1⟩ := trodAll_cons r0
  obtain ⟨rfl, rfl, rfl⟩ := trodAll_nil r1
  obtain rfl : args = #[v0, v1] := by cases args; simp_all
  obtain ⟨rfl, rfl⟩ := trodVars_none hV
  have k0 := h0
  have lt0 : ∀ x ∈ p0, x.block < W.heap.size := by obtain ⟨m, hm⟩ := k0; exact DataW.trod_lt m _ _ _ hm
  obtain ⟨ka, kl, kcp, rfl⟩ := okWide_slice Try.underlying22 (hval 0 22 v0 rfl rfl)
  obtain ⟨ts, hT, hz⟩ : ∃ ts, EView W 0 W.heap.size (.slice ka kl kcp) ts ∧ Sized ts := by obtain ⟨m, hm⟩ := h0; exact eview_of_trod hm
  obtain ⟨s, rfl, rfl, rfl, wb1⟩ := open_string Try.underlying9 (hval 1 9 v1 rfl rfl) h1
  clear hA0 hval0
  refine (lawDirFind_walk W s hz (by unfold maxLen at wb1; omega) hT).mono fun e W' ⟨he, bel⟩ => ?_
  subst he
  exact ⟨_, rfl, _, _, _, [], _, [], hW', trodAll_mk1 (shut_bool Try.underlying4 _), (trodAll_cons_mk (Below.trod laidOut (by kernel_rfl) (of_decide_eq_true (by kernel_rfl)) k0 bel lt0) (trodAll_cons_mk (shut_string Try.underlying9 wb1) trodAll_mk0)), rfl, bel.frame _, fun h => by cases h⟩

theorem fnExactDirFind_holds : Rows.FnExactDirFindSaid :=
  OpenClaim.holds_of_wide 3 Try.f3 rfl rfl rfl rfl rfl rfl rfl ⟨rfl, rfl, rfl, rfl, rfl⟩ rfl rfl rfl rfl rfl (by kernel_rfl) Try.func3 (by kernel_rfl)
    (of_decide_eq_true (by kernel_rfl)) (by unfold Func.isWrapper; first | (rw [if_pos (by decide +kernel)]; kernel_rfl) | (rw [if_neg (by decide +kernel)]; exact ⟨rfl, rfl⟩))
    (fun os started H enc _ => lawDirFind_lifted os started H enc)
#print axioms fnExactDirFind_holds
end Go.Proofs.Ytnodnpphiigcgaa

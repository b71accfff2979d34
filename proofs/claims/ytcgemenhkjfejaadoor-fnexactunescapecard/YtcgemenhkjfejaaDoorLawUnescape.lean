/- The law on Unescape; its row. -/
import Derived.Test.YtcgemenhkjfejaaDoorSpecUnesc
import Derived.Test.YtcgemenhkjfejaaDoorLaidG
import Derived.Test.YtcgemenhkjfejaaDoorEqB
import Derived.Test.YtcgemenhkjfejaaDoorToB
import Derived.Test.YtcgemenhkjfejaaDoorMarkB
import Derived.Test.YtcgemenhkjfejaaDoorOpenB
import Derived.Stop.LaidTwo
namespace Go.Proofs.YtcgemenhkjfejaaDoor
open Go.ChangeShapes Go.WideShapes Go.ChangeAt Go.RowKit

theorem unescD_length (xs : List Int) (esc : Bool) : (unescD xs esc).length ≤ 64 := by
  unfold unescD
  split
  · rename_i h
    rw [unescL_length h.1]; exact Nat.le_refl _
  · simp

set_option maxHeartbeats 2000000 in
theorem lawUnescape_walk (w : World) {hi : Nat} {a : Value} {xs : List Int} (esc : Bool) {aL aM aK : Addr} (hB : Byt xs) (h1 : View w 0 hi .u8 a xs) (hG : GlobA w aL aM aK) :
    Calls Tryd.prog 3 #[a, .bool esc] w fun e w' => e = .returned (.bool true) ∧ Below w.heap.size w w' := by
  have v0 := h1
  obtain ⟨ao, cap, rfl, hl0, _, _⟩ := h1
  have HG : Hid (GlobA w aL aM aK) := hG
  have hul := unescD_length xs esc
  clear hG
  by_cases hl : xs.length ≤ 1048576
  case neg =>
    clear v0
    go_enter Tryd.func3, Tryd.ntmps3
    go_wp2
    go_ret
    exact ⟨rfl, (Chg.refl 0 0 w).below (by omega)⟩
  go_enter Tryd.func3, Tryd.ntmps3
  go_wp2_with fail
  refine (toByteS_calls _ hl v0).mono ?_
  rintro e wa ⟨g, rfl, og, ha⟩
  have vg := og.view (hi := wa.heap.size) (by omega) (fun g hg => (og.lt g hg).2)
  have va := v0.chg ha (by omega)
  have sa := ha.size
  clear og
  have hN := specUnescape_calls wa esc hB vg (Nat.le_refl _) hl
  go_wp2_with fail
  refine hN.mono ?_
  rintro e wb ⟨sv, rfl, ov, hb⟩
  have hB' := ha.trans hb
  have vb := va.chg hb (by omega)
  have sb := hb.size
  have vs := ov.view (hi := wb.heap.size) (by omega) (fun g hg => (ov.lt g hg).2)
  obtain ⟨s0, s1, s2, rfl⟩ := row_slice ov
  clear vg va ha hb hN ov
  go_wp2_with fail
  refine (toByteS_calls _ hl vb).mono ?_
  rintro e wc ⟨g1, rfl, ox, hc⟩
  have hC := hB'.trans hc
  have sc := hc.size
  have vx := ox.view (hi := wc.heap.size) (by omega) (fun g hg => (ox.lt g hg).2)
  have hgx := (ox.lt g1 rfl).2
  have vc := vb.chg hc (by omega)
  have vs := vs.chg hc (by omega)
  clear hc hB' vb
  have hN := implUnescape_calls wc esc vx hB (HG.out.chg hC)
  go_wp2_with fail
  refine hN.mono ?_
  rintro e wd ⟨gv, rfl, og, hd⟩
  have hD := hC.trans hd
  have sd := hd.size
  have ox := ox.chg hd (by intro g _; omega)
  have vd := vc.chg hd (by omega)
  have vs := vs.chg hd (by omega)
  have vq := og.view (hi := wd.heap.size) (by omega) (fun g hg => (og.lt g hg).2)
  obtain ⟨t0, t1, t2, rfl⟩ := row_slice og
  clear hd hC vc hN vx
  go_wp2_with fail
  refine (eqByteS_calls _ vq vs).mono ?_
  rintro e we ⟨rfl, he⟩
  have hE := hD.trans (he.chg 0 0)
  have se := (he.chg 0 0).size
  have ox := ox.chg (he.chg 0 0) (by intro g _; omega)
  have og := og.chg (he.chg 0 0) (by intro g _; omega)
  have vd := vd.same he
  have vs := vs.same he
  clear he hD vq
  go_wp2_with fail
  refine (toByteS_calls _ hl vd).mono ?_
  rintro e wf ⟨g2, rfl, oz, hf⟩
  have hF := hE.trans hf
  have sf := hf.size
  have ox := ox.chg hf (by intro g _; omega)
  have og := og.chg hf (by intro g _; omega)
  have vx := ox.view (hi := wf.heap.size) (by omega) (fun g hg => (ox.lt g hg).2)
  have vy := oz.view (hi := wf.heap.size) (by omega) (fun g hg => (oz.lt g hg).2)
  have vd := vd.chg hf (by omega)
  have vs := vs.chg hf (by omega)
  clear hf hE oz
  go_wp2_with fail
  refine (eqByteS_calls _ vx vy).mono ?_
  rintro e wg ⟨rfl, hg⟩
  have hG := hF.trans (hg.chg 0 0)
  have sg := (hg.chg 0 0).size
  have ox := ox.chg (hg.chg 0 0) (by intro g _; omega)
  have og := og.chg (hg.chg 0 0) (by intro g _; omega)
  have vd := vd.same hg
  have vs := vs.same hg
  clear hg hF vx vy
  have oxw : ∀ g, (Value.slice (some ⟨g1, 0, none⟩) xs.length xs.length).ownBlock = some g → wb.heap.size ≤ g ∧ g < wc.heap.size := by
    intro g hg
    cases hg
    exact ⟨(ox.lt g1 rfl).1, hgx⟩
  go_wp2_with fail
  refine (markByteS_calls _ _ _ _ _ 1 wb.heap.size wc.heap.size (by omega) (by omega) ox oxw).mono ?_
  rintro e wh ⟨rfl, _, hh, _, _⟩
  have hH : Chg 0 0 w wh := hG.step hh (Or.inr (Or.inl (by omega)))
  have sh := hh.size
  have og := og.chg hh (fun g hg => by have := (og.lt g hg).1; omega)
  have vs := vs.chg hh (by omega)
  have vq := og.view (hi := wh.heap.size) (by omega) (fun g hg => (og.lt g hg).2)
  clear hh hG ox oxw vd
  have hk0 : ¬ (((1 + xs.length : Nat) : Int) < 0) := by omega
  go_wp2_with fail
  refine (eqByteS_calls _ vq vs).mono ?_
  rintro e wi ⟨rfl, hi'⟩
  have hI := hH.trans (hi'.chg 0 0)
  have si := (hi'.chg 0 0).size
  have og := og.chg (hi'.chg 0 0) (by intro g _; omega)
  have vs := vs.same hi'
  clear hi' hH vq
  go_wp2_with fail
  refine (markByteS_calls _ _ _ _ _ 1 wc.heap.size wi.heap.size (by omega) (by omega) og (fun g hg => og.lt g hg)).mono ?_
  rintro e wj ⟨rfl, oj, hj, _, _⟩
  have hJ : Chg 0 0 w wj := hI.step hj (Or.inr (Or.inl (by omega)))
  have sj := hj.size
  have vs := vs.chg hj (by omega)
  have vj := oj.view (hi := wj.heap.size) (by rw [marks_length]; omega) (fun g hg => (oj.lt g hg).2)
  clear hj hI og oj
  go_wp2_with fail
  refine (heldByteS_calls _ 1 _ (by omega) vj).mono ?_
  rintro e wk ⟨rfl, hk⟩
  have hK := hJ.trans (hk.chg 0 0)
  have sk := (hk.chg 0 0).size
  have vs := vs.same hk
  clear hk hJ vj
  have hne : (((1 + (unescD xs esc).length : Nat) : Int) != ((1 + (unescD xs esc).length : Nat) : Int)) = false := by simp
  have v9 := v0.chg hK (by omega)
  go_wp2_with fail
  refine (toByteS_calls _ hl v9).mono ?_
  rintro e wl ⟨g3, rfl, ol, hl'⟩
  have hL := hK.trans hl'
  have sl := hl'.size
  have vs := vs.chg hl' (by omega)
  have vl := ol.view (hi := wl.heap.size) (by omega) (fun g hg => (ol.lt g hg).2)
  clear hl' hK ol hne v9
  have hN := implUnescape_calls wl esc vl hB (HG.out.chg hL)
  go_wp2_with fail
  refine hN.mono ?_
  rintro e wm ⟨mv, rfl, om, hm⟩
  have hM := hL.trans hm
  have vs := vs.chg hm (by omega)
  have vm := om.view (hi := wm.heap.size) (by omega) (fun g hg => (om.lt g hg).2)
  obtain ⟨m0, m1, m2, rfl⟩ := row_slice om
  clear hm hL hN om vl
  go_wp2_with fail
  refine (eqByteS_calls _ vm vs).mono ?_
  rintro e wn ⟨rfl, hn⟩
  have hN' := hM.trans (hn.chg 0 0)
  clear hn hM vm vs
  go_wp2
  go_ret
  exact ⟨rfl, hN'.below (by omega)⟩

/-- One listed variable is left out. -/
theorem laidMet_skip {P : Program} {x y : String × DataW Unit} {r : List (String × DataW Unit)} {w : World} (h : laidMet P (x :: y :: r) w) : laidMet P (x :: r) w := by
  obtain ⟨ps, hv, hnd, hrows⟩ := h
  obtain ⟨n, d⟩ := x
  obtain ⟨n', d'⟩ := y
  obtain ⟨g, t, cs, fuel, p, q, h1, h2, h3, h4, ⟨g', t', cs', fuel', p', q', _, _, _, _, hq, rfl⟩, rfl⟩ := hv
  refine ⟨_, ⟨g, t, cs, fuel, p, q', h1, h2, h3, h4, hq, rfl⟩, ?_, fun b off hm => hrows b off ?_⟩
  · refine List.Nodup.sublist ?_ hnd
    exact List.Sublist.append (List.Sublist.refl _) (List.sublist_append_right _ _)
  · simp only [List.mem_append] at hm ⊢
    rcases hm with hm | hm
    · exact Or.inl hm
    · exact Or.inr (Or.inr hm)

theorem two_of_laid {W : World} {n0 n1 : String} {x0 x1 : List UInt8} {r : List (String × DataW Unit)} {g0 g1 : Nat} (h : laidMet Tryd.prog ((n0, .iface "*errors.errorString" (.ptr (.agg [.lit (.string x0)]))) :: (n1, .iface "*errors.errorString" (.ptr (.agg [.lit (.string x1)]))) :: r) W)
    (hg0 : Tryd.prog.globalNamed n0 = some g0) (ht0 : (Tryd.prog.globals[g0]?).map (·.type) = some 38) (hg1 : Tryd.prog.globalNamed n1 = some g1) (ht1 : (Tryd.prog.globals[g1]?).map (·.type) = some 38) :
    ∃ a0 a1, W.cell? ⟨g0, 0, none⟩ = some (.iface 70 (.pointer (some a0))) ∧ W.cell? ⟨g1, 0, none⟩ = some (.iface 70 (.pointer (some a1))) ∧ a1 ≠ a0 ∧ (∃ c t, W.heap[a0.block]? = some (.cells c t (0, 0))) ∧ ∃ c t, W.heap[a1.block]? = some (.cells c t (0, 0)) := by
  obtain ⟨a0, a1, _, _, c0, c1, t0, t1, hv0, hv1, _, _, _, _, _, _, hne, hb0, hb1⟩ := laid_sentinels2 h hg0 ht0 hg1 ht1 Tryd.underlying38 lg_row Tryd.underlying70 Tryd.underlying97 rfl rfl Tryd.underlying9 (by kernel_rfl) (by kernel_rfl)
  exact ⟨a0, a1, by simpa using World.var?_cell hg0 hv0 0, by simpa using World.var?_cell hg1 hv1 0, fun e => hne e.symm, ⟨c0, t0, hb0⟩, c1, t1, hb1⟩

/-- What the row lists. -/
abbrev lu : List (String × DataW Unit) := Rows.fnExactUnescapeRow.laid

theorem globA_of_laid {W : World} (h : laidMetH Tryd.prog lu W) : ∃ aL aM aK, GlobA W aL aM aK := by
  have hl : laidMet Tryd.prog [("loop.example/s01525/impl.errLength", Rows.laid_loop_example_s01525_impl_errLength), ("loop.example/s01525/impl.errMagic", Rows.laid_loop_example_s01525_impl_errMagic), ("loop.example/s01525/impl.errKind", Rows.laid_loop_example_s01525_impl_errKind), ("loop.example/s01525/impl.journalMagic", Rows.laid_loop_example_s01525_impl_journalMagic)] W := h
  obtain ⟨a0, a1, c0, c1, n1, r0, r1⟩ := two_of_laid (g0 := 0) (g1 := 2) hl (by kernel_rfl) (by kernel_rfl) (by kernel_rfl) (by kernel_rfl)
  obtain ⟨b0, a2, d0, c2, n2, _, r2⟩ := two_of_laid (g0 := 0) (g1 := 3) (laidMet_skip hl) (by kernel_rfl) (by kernel_rfl) (by kernel_rfl) (by kernel_rfl)
  have e : b0 = a0 := by
    rw [c0] at d0
    simp only [Option.some.injEq, Value.iface.injEq, Value.pointer.injEq, true_and] at d0
    exact d0.symm
  subst e
  obtain ⟨m0, m1, m2, m3⟩ := magic_of_laid hl.tail.tail.tail
  exact ⟨_, _, _, ⟨c0, c1, c2, m0, m1, m2, m3⟩, n1, n2, r0, r1, r2⟩

/-- A world that meets the condition. -/
def low (p : Program) : Nat := (World.holding p default ⟨#[], #[], []⟩).heap.size
def laidWorld (p : Program) (os : Os) : World :=
  let w0 := World.holding p os ⟨#[.cells #[.string { data := #[110, 111, 116, 32, 97, 115, 32, 108, 111, 110, 103, 32, 97, 115, 32, 97, 32, 98, 108, 111, 99, 107] }] 97, .cells #[.string { data := #[100, 111, 101, 115, 32, 110, 111, 116, 32, 98, 101, 103, 105, 110, 32, 119, 105, 116, 104, 32, 116, 104, 101, 32, 109, 97, 103, 105, 99] }] 97, .cells #[.string { data := #[111, 102, 32, 110, 111, 32, 107, 105, 110, 100, 44, 32, 111, 114, 32, 111, 102, 32, 97, 110, 111, 116, 104, 101, 114, 32, 111, 110, 101] }] 97], #[], []⟩
  { w0 with heap := (((w0.heap.modify 0 fun
      | .cells _ t frozen => .cells #[.iface 70 (.pointer (some ⟨low p, 0, none⟩))] t frozen
      | o => o).modify 2 fun
      | .cells _ t frozen => .cells #[.iface 70 (.pointer (some ⟨low p + 1, 0, none⟩))] t frozen
      | o => o).modify 3 fun
      | .cells _ t frozen => .cells #[.iface 70 (.pointer (some ⟨low p + 2, 0, none⟩))] t frozen
      | o => o).modify 1 fun
      | .cells _ t frozen => .cells #[.int .u8 106, .int .u8 108, .int .u8 111, .int .u8 103] t frozen
      | o => o }

theorem laidWorld_met (os : Os) (args : Array Value) : laidMetH Tryd.prog lu ((laidWorld Tryd.prog os).forCall (fun _ _ => 0) ⟨#[], args, []⟩).memory :=
  laidMetH_of_parts (laidMet_of_run (ps := [.cell 0 0, .cell (low Tryd.prog) 0, .cell 2 0, .cell (low Tryd.prog + 1) 0, .cell 3 0, .cell (low Tryd.prog + 2) 0, .cell 1 0, .cell 1 1, .cell 1 2, .cell 1 3]) 8 (by kernel_rfl) (by kernel_rfl) (by kernel_rfl)) (by kernel_rfl)

set_option maxRecDepth 100000 in
theorem lawUnescape_lifted (os : Os) (started : os.Started) (H : Type) (enc : TypeId × Value → H) :
    ReturnsInHanded {} Tryd.checked os 3 .any (fun w args => (Rows.fnExactUnescapeSpec.pre enc Tryd.prog Tryd.f3 [] false w args ∧ laidMetH Tryd.prog lu w) ∧ sizedMet enc Tryd.prog Tryd.f3 (OpenSpec.ofChange Rows.fnExactUnescapeSpec) false w args)
      (Rows.fnExactUnescapeSpec.post enc Tryd.prog Tryd.f3 false true false false) := by
  refine returnsInHanded_of_change_and (C := Tryd.checked) (X := fun w _ => laidMetH Tryd.prog lu w) (fun _ _ _ hh h => h.of_heap hh) own started (by kernel_rfl) Tryd.func3
    (ChangeSpec.witness_at (enc := enc) (C := Tryd.checked) (os := os) (X := fun w _ => laidMetH Tryd.prog lu w) false (laidWorld Tryd.prog os) #[.slice none 0 0, .bool false] 8 rfl (by kernel_rfl) (by kernel_rfl) (by kernel_rfl) (by kernel_rfl) (by kernel_rfl) (laidWorld_met os _)) ?_
  intro W base args ds gs before hval0 hW _ _ hL _
  have hval : ∀ (j : Nat) t v, Tryd.f3.params[j]? = some t → args[j]? = some v → Value.okWide Tryd.prog W .any base t v := hval0
  have hW' := hW
  obtain ⟨p, q, hA0, hV0, rfl, hfz, hnd⟩ := hW
  have hA : DataW.TrodAll enc Tryd.prog W 0 (fun _ => true) true Tryd.f3.params.toList args.toList ds p := hA0
  rw [Tryd.params3] at hA hval
  obtain ⟨v0, vs0, d0, ds0, p0, q0, hargs, rfl, rfl, h0, r0⟩ := trodAll_cons hA
  obtain ⟨v1, vs1, d1, ds1, p1, q1, rfl, rfl, rfl, h1, r1⟩ := trodAll_cons r0
  obtain ⟨rfl, rfl, rfl⟩ := trodAll_nil r1
  obtain rfl : args = #[v0, v1] := by cases args; simp_all
  have k0 := h0
  have k1 := h1
  have lt0 : ∀ x ∈ p0, x.block < W.heap.size := by obtain ⟨m, hm⟩ := k0; exact DataW.trod_lt m _ _ _ hm
  have lt1 : ∀ x ∈ p1, x.block < W.heap.size := by obtain ⟨m, hm⟩ := k1; exact DataW.trod_lt m _ _ _ hm
  obtain ⟨ka, kl, kcp, rfl⟩ := okWide_slice Tryd.underlying22 (hval 0 22 v0 rfl rfl)
  obtain ⟨esc, rfl⟩ : ∃ b, v1 = .bool b := by
    obtain ⟨b, rfl, _⟩ := open_bool Tryd.underlying4 (hval 1 4 v1 rfl rfl) h1
    exact ⟨b, rfl⟩
  obtain ⟨xs, wk, hwf⟩ : ∃ xs, View W 0 W.heap.size .u8 (.slice ka kl kcp) xs ∧ ∀ x ∈ xs, (Lit.int .u8 x).wf = true := by
    obtain ⟨fuel, hf⟩ := h0
    exact view_wf_of_trod Tryd.underlying22 Tryd.underlying5 (by kernel_rfl) hf
  obtain ⟨aL, aM, aK, hG⟩ := globA_of_laid hL
  obtain ⟨g1, g2, g3, g4, rfl⟩ : ∃ g1 g2 g3 g4, gs = [g1, g2, g3, g4] := by
    match gs, hV0 with
    | [g1, g2, g3, g4], _ => exact ⟨g1, g2, g3, g4, rfl⟩
  clear hA0 hval0
  refine (lawUnescape_walk W esc (byt_of_wf hwf) wk hG).mono fun e W' ⟨he, bel⟩ => ?_
  subst he
  exact ⟨_, rfl, _, _, _, [], _, _, hW', trodAll_mk1 (shut_bool Tryd.underlying4 _), (trodAll_cons_mk (Below.trod laidOut (by kernel_rfl) (of_decide_eq_true (by kernel_rfl)) k0 bel lt0) (trodAll_cons_mk (Below.trod laidOut (by kernel_rfl) (of_decide_eq_true (by kernel_rfl)) k1 bel lt1) trodAll_mk0)), Below.trodVars laidOut bel (by kernel_rfl) hV0, bel.frame _, fun h => by cases h⟩

theorem fnExactUnescape_row : Rows.FnExactUnescapeSaid :=
  OpenClaim.holds_of_wide 3 Tryd.f3 rfl rfl rfl rfl rfl rfl rfl ⟨rfl, rfl, rfl, rfl, rfl⟩ rfl rfl rfl rfl rfl (by kernel_rfl) Tryd.func3 (by kernel_rfl)
    (of_decide_eq_true (by kernel_rfl)) (by unfold Func.isWrapper; first | (rw [if_pos (by decide +kernel)]; kernel_rfl) | (rw [if_neg (by decide +kernel)]; exact ⟨rfl, rfl⟩))
    (fun os started H enc _ => lawUnescape_lifted os started H enc)
#print axioms fnExactUnescape_row
end Go.Proofs.YtcgemenhkjfejaaDoor

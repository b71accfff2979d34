/- The law on SplitPath. -/
import Derived.Test.YtefpkmipfpobcaaImplPath
import Derived.Test.YtefpkmipfpobcaaPathRes
import Derived.Test.YtefpkmipfpobcaaOpenB
import Derived.ChangeMaps5
namespace Go.Proofs.Ytefpkmipfpobcaa
open Go.ChangeShapes Go.WideShapes Go.ChangeAt Go.RowKit Go.ChangeMaps

theorem OwnS.slice {w : World} {base : Nat} {e : TypeId} {v : Value} {ps : List ByteArray} (h : OwnS w base e v ps) : ∃ ao cap, v = .slice ao ps.length cap := by
  obtain ⟨_, h2⟩ := h
  rcases h2 with ⟨rfl, h0⟩ | ⟨g, cap, cur, rfl, _⟩
  · exact ⟨Option.none, 0, by rw [h0]⟩
  · exact ⟨_, cap, rfl⟩

set_option maxRecDepth 20000 in
set_option maxHeartbeats 2000000 in
theorem lawSplitPath_walk (w : World) (s : ByteArray) (_hz : s.size ≤ 9223372036854775807) :
    Calls Try.prog 3 #[.string s] w fun e w' => e = .returned (.bool true) ∧ Below w.heap.size w w' := by
  by_cases hl : s.size ≤ 1048576
  case neg =>
    have hbig : (1048576 : Int) < (s.size : Int) := by omega
    go_enter Try.func3, Try.ntmps3
    go_wp2
    go_ret
    exact ⟨rfl, (Chg.refl 0 0 w).below (by omega)⟩
  have hsm : ¬ (1048576 : Int) < (s.size : Int) := by omega
  have hS := fun w => specSplitPath_calls w s hl
  have hI := fun w => implSplitPath_calls w s hl
  have hpl := pathD_len s
  generalize (pathD s).1 = c at *
  generalize (pathD s).2 = ps at *
  have hN := hS w
  go_enter Try.func3, Try.ntmps3
  go_wp2_with fail
  refine hN.mono ?_
  rintro e wa ⟨sv, rfl, ov, ha⟩
  obtain ⟨so, scap, rfl⟩ := ov.slice
  have sa := ha.size
  have za : (wa.alloc (prO 24 c so ps.length scap)).heap.size = wa.heap.size + 1 := by simp
  have cA : Chg 0 0 wa (wa.alloc (prO 24 c so ps.length scap)) := Chg.alloc (Chg.refl 0 0 wa) _
  have HA1 : Hid (Chg 0 0 w (wa.alloc (prO 24 c so ps.length scap))) := ha.trans cA
  have HB1 : Hid ((wa.alloc (prO 24 c so ps.length scap)).heap[wa.heap.size]? = some (.cells #[.int .i64 c, .slice so ps.length scap] 24 (0, 0))) := heap_new wa _
  have VS1 : Hid (SView (wa.alloc (prO 24 c so ps.length scap)) w.heap.size wa.heap.size (.slice so ps.length scap) ps) := (ov.view (by omega) (fun g hg => (ov.lt g hg).2)).chg cA (by omega)
  have hN2 := hI (wa.alloc (prO 24 c so ps.length scap))
  clear hN ov ha cA
  go_wp2_with fail
  generalize wa.alloc (prO 24 c so ps.length scap) = w1 at *
  refine hN2.mono ?_
  rintro e wb ⟨gv, rfl, og, hb⟩
  obtain ⟨go', gcap, rfl⟩ := og.slice
  have sb := hb.size
  have zb : (wb.alloc (prO 24 c go' ps.length gcap)).heap.size = wb.heap.size + 1 := by simp
  have cB : Chg 0 0 wb (wb.alloc (prO 24 c go' ps.length gcap)) := Chg.alloc (Chg.refl 0 0 wb) _
  have hbc := hb.trans cB
  have HA2 : Hid (Chg 0 0 w (wb.alloc (prO 24 c go' ps.length gcap))) := HA1.out.trans hbc
  have HB2 : Hid ((wb.alloc (prO 24 c go' ps.length gcap)).heap[wa.heap.size]? = some (.cells #[.int .i64 c, .slice so ps.length scap] 24 (0, 0))) := (hbc.block _ (by omega) (by omega)).trans HB1.out
  have HG2 : Hid ((wb.alloc (prO 24 c go' ps.length gcap)).heap[wb.heap.size]? = some (.cells #[.int .i64 c, .slice go' ps.length gcap] 24 (0, 0))) := heap_new wb _
  have VS2 := VS1.out.chg hbc (by omega)
  have hog := og.lt
  have OG2 : OwnS (wb.alloc (prO 24 c go' ps.length gcap)) w1.heap.size 9 (.slice go' ps.length gcap) ps := og.chg cB (by intro g _; omega)
  obtain ⟨x0, x1⟩ := duo_cells HB2.out
  obtain ⟨y0, y1⟩ := duo_cells HG2.out
  have hN := eqPathResult_calls (wb.alloc (prO 24 c go' ps.length gcap)) c go' so gcap scap (OG2.view (by omega) (hi := wb.heap.size + 1) (fun g hg => by have := (hog g hg).2; omega)) VS2
  clear hN2 og hb cB hbc VS1
  go_wp2_with fail
  generalize wb.alloc (prO 24 c go' ps.length gcap) = w2 at *
  refine hN.mono ?_
  rintro e w3 ⟨rfl, h3⟩
  have s3 := h3.size
  have HA3 : Hid (Chg 0 0 w w3) := HA2.out.trans h3
  have HB3 : Hid (w3.heap[wa.heap.size]? = some (.cells #[.int .i64 c, .slice so ps.length scap] 24 (0, 0))) := (h3.block _ (by omega) (by omega)).trans HB2.out
  have HG3 : Hid (w3.heap[wb.heap.size]? = some (.cells #[.int .i64 c, .slice go' ps.length gcap] 24 (0, 0))) := (h3.block _ (by omega) (by omega)).trans HG2.out
  have VS3 := VS2.chg h3 (by omega)
  have OG3 := OG2.chg h3 (by intro g _; omega)
  clear x0 x1 y0 y1
  obtain ⟨y0, y1⟩ := duo_cells HG3.out
  obtain ⟨M, HM⟩ : ∃ M : Nat, Hid (1 + ps.length = M) := ⟨_, rfl⟩
  have hMb : M ≤ 1000 := by have := HM.out; omega
  have hN2 := markPathResult_calls w3 w1.heap.size c go' gcap w1.heap.size wb.heap.size (by omega) OG3 hog
  rw [HM.out] at hN2
  clear hN h3 VS2 OG2
  go_wp2_with fail
  refine hN2.mono ?_
  rintro e w4 ⟨rfl, om, h4⟩
  have s4 := h4.size
  have HA4 : Hid (Chg 0 0 w w4) := HA3.out.step h4 (Or.inr (Or.inl (by omega)))
  have HB4 : Hid (w4.heap[wa.heap.size]? = some (.cells #[.int .i64 c, .slice so ps.length scap] 24 (0, 0))) := (h4.block _ (by omega) (by omega)).trans HB3.out
  have HG4 : Hid (w4.heap[wb.heap.size]? = some (.cells #[.int .i64 c, .slice go' ps.length gcap] 24 (0, 0))) := (h4.block _ (by omega) (by omega)).trans HG3.out
  have VS4 := VS3.chg h4 (by omega)
  clear y0 y1
  obtain ⟨y0, y1⟩ := duo_cells HG4.out
  have hN := heldPathResult_calls w4 c go' ps.length gcap (by omega) (om.view (by rw [mkT_len]; omega) (hi := wb.heap.size) (fun g hg => (hog g hg).2))
  rw [HM.out] at hN
  clear hN2 h4 VS3 OG3 om
  go_wp2_with fail
  refine hN.mono ?_
  rintro e w5 ⟨rfl, h5⟩
  have s5 := h5.size
  have HA5 : Hid (Chg 0 0 w w5) := HA4.out.trans h5
  have HB5 : Hid (w5.heap[wa.heap.size]? = some (.cells #[.int .i64 c, .slice so ps.length scap] 24 (0, 0))) := (h5.block _ (by omega) (by omega)).trans HB4.out
  have VS5 := VS4.chg h5 (by omega)
  clear y0 y1 hN h5 VS4
  have hne : ((M : Int) != (M : Int)) = false := by simp
  have hm0 : ¬ ((M : Int) < 0) := by omega
  have hN2 := hI w5
  go_wp2_with fail
  refine hN2.mono ?_
  rintro e wc ⟨hv, rfl, oh, hc⟩
  obtain ⟨ho', hcap, rfl⟩ := oh.slice
  have sc := hc.size
  have cC : Chg 0 0 wc (wc.alloc (prO 24 c ho' ps.length hcap)) := Chg.alloc (Chg.refl 0 0 wc) _
  have hcc := hc.trans cC
  have HA6 : Hid (Chg 0 0 w (wc.alloc (prO 24 c ho' ps.length hcap))) := HA5.out.trans hcc
  have HB6 : Hid ((wc.alloc (prO 24 c ho' ps.length hcap)).heap[wa.heap.size]? = some (.cells #[.int .i64 c, .slice so ps.length scap] 24 (0, 0))) := (hcc.block _ (by omega) (by omega)).trans HB5.out
  have HG6 : Hid ((wc.alloc (prO 24 c ho' ps.length hcap)).heap[wc.heap.size]? = some (.cells #[.int .i64 c, .slice ho' ps.length hcap] 24 (0, 0))) := heap_new wc _
  have VS6 := VS5.chg hcc (by omega)
  have VH6 := (oh.view (by omega) (hi := wc.heap.size) (fun g hg => (oh.lt g hg).2)).chg cC (by omega)
  obtain ⟨x0, x1⟩ := duo_cells HB6.out
  obtain ⟨y0, y1⟩ := duo_cells HG6.out
  have hN := eqPathResult_calls (wc.alloc (prO 24 c ho' ps.length hcap)) c ho' so hcap scap VH6 VS6
  clear hN2 hc cC hcc oh VS5 VS6 VH6 hne
  go_wp2_with fail
  generalize wc.alloc (prO 24 c ho' ps.length hcap) = w6 at *
  refine hN.mono ?_
  rintro e w7 ⟨rfl, h7⟩
  have HA7 : Hid (Chg 0 0 w w7) := HA6.out.trans h7
  clear hN h7 x0 x1 y0 y1
  go_wp2
  go_ret
  exact ⟨rfl, HA7.out.below (by omega)⟩

set_option maxRecDepth 100000 in
theorem lawSplitPath_lifted (os : Os) (started : os.Started) (H : Type) (enc : TypeId × Value → H) :
    ReturnsInHanded {} Try.checked os 3 .any (Rows.fnExactSplitPathSpec.pre6 enc Try.prog Try.f3 Rows.fnExactSplitPathRow.domain false) (Rows.fnExactSplitPathSpec.post enc Try.prog Try.f3 false true false false) := by
  refine returnsInHanded_of_change (C := Try.checked) own started (by kernel_rfl) Try.func3
    (ChangeSpec.witness6 (enc := enc) (C := Try.checked) false ⟨#[], #[.string ⟨#[]⟩], []⟩ 8 (by kernel_rfl) (by kernel_rfl) (by kernel_rfl) (by kernel_rfl)) ?_
  intro W base args ds gs before hval0 hW hcnd _
  have hval : ∀ (j : Nat) t v, Try.f3.params[j]? = some t → args[j]? = some v → Value.okWide Try.prog W .any base t v := hval0
  have hW' := hW
  obtain ⟨p, q, hA0, hV, rfl, hfz, hnd⟩ := hW
  have hA : DataW.TrodAll enc Try.prog W 0 (fun _ => true) true Try.f3.params.toList args.toList ds p := hA0
  rw [Try.params3] at hA hval
  obtain ⟨v1, vs1, d1, ds1, p1, q1, hargs, rfl, rfl, h1, r1⟩ := trodAll_cons hA
  obtain ⟨rfl, rfl, rfl⟩ := trodAll_nil r1
  obtain rfl : args = #[v1] := by cases args; simp_all
  obtain ⟨rfl, rfl⟩ := trodVars_none hV
  obtain ⟨b1, rfl, rfl, rfl, wb1⟩ := open_string Try.underlying9 (hval 0 9 v1 rfl rfl) h1
  clear hA0 hval0
  refine (lawSplitPath_walk W b1 (by unfold maxLen at wb1; omega)).mono fun e W' ⟨he, bel⟩ => ?_
  subst he
  exact ⟨_, rfl, _, _, _, [], _, [], hW', trodAll_mk1 (shut_bool Try.underlying4 _), (trodAll_cons_mk (shut_string Try.underlying9 wb1) trodAll_mk0), rfl, bel.frame _, fun h => by cases h⟩

theorem fnExactSplitPath_holds : Rows.FnExactSplitPathSaid :=
  OpenClaim.holds_of_wide 3 Try.f3 rfl rfl rfl rfl rfl rfl rfl ⟨rfl, rfl, rfl, rfl, rfl⟩ rfl rfl rfl rfl rfl (by kernel_rfl) Try.func3 (by kernel_rfl)
    (of_decide_eq_true (by kernel_rfl)) (by unfold Func.isWrapper; first | (rw [if_pos (by decide +kernel)]; kernel_rfl) | (rw [if_neg (by decide +kernel)]; exact ⟨rfl, rfl⟩))
    (fun os started H enc _ => lawSplitPath_lifted os started H enc)
#print axioms fnExactSplitPath_holds
end Go.Proofs.Ytefpkmipfpobcaa

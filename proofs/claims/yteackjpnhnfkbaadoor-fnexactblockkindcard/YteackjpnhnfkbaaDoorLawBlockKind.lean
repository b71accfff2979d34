/- The law on BlockKind; its row; its card. -/
import Derived.Test.YteackjpnhnfkbaaDoorBlockKind
import Derived.Test.YteackjpnhnfkbaaDoorSpecKind
import Derived.Test.YteackjpnhnfkbaaDoorLaidG
import Derived.Test.YteackjpnhnfkbaaDoorEqB
import Derived.Test.YteackjpnhnfkbaaDoorToB
import Derived.Test.YteackjpnhnfkbaaDoorOpenB
namespace Go.Proofs.YteackjpnhnfkbaaDoor
open Go.ChangeShapes Go.WideShapes Go.ChangeAt Go.RowKit

set_option maxHeartbeats 1000000 in
theorem lawBlockKind_walk (w : World) {hi : Nat} {a : Value} {xs : List Int} {tL tM tK : TypeId} {vL vM vK : Value} (hB : Byt xs) (h1 : View w 0 hi .u8 a xs) (hG : Glob w tL tM tK vL vM vK) (hE : ErrT w) :
    Calls Tryd.prog 3 #[a] w fun e w' => e = .returned (.bool true) ∧ Below w.heap.size w w' := by
  have v0 := h1
  obtain ⟨ao, cap, rfl, hl0, _, _⟩ := h1
  have HG : Hid (Glob w tL tM tK vL vM vK) := hG
  have HE : Hid (ErrT w) := hE
  clear hG hE
  by_cases hl : xs.length ≤ 1048576
  case neg =>
    clear v0
    go_enter Tryd.func3, Tryd.ntmps3
    go_wp2
    go_ret
    exact ⟨rfl, (Chg.refl 0 0 w).below (by omega)⟩
  go_enter Tryd.func3, Tryd.ntmps3
  go_wp2_with fail
  refine (toByteS_calls _ hl v0).mono ?_
  rintro e wa ⟨g, rfl, og, ha⟩
  have vg := og.view (hi := wa.heap.size) (by omega) (fun g hg => (og.lt g hg).2)
  have va := v0.chg ha (by omega)
  clear og
  go_wp2_with fail
  refine (specKind_calls _ hB vg).mono ?_
  rintro e wb ⟨rfl, hb⟩
  have hB' := ha.trans hb
  have vb := va.chg hb (by omega)
  have hkk : (if xs.length = 64 ∧ xs.take 4 = mg ∧ (1 ≤ xs.getD 4 0 ∧ xs.getD 4 0 ≤ 4) then xs.getD 4 0 else 0) = kindOf xs := rfl
  rw [hkk]
  clear vg va ha hb hkk
  go_wp2_with fail
  refine (toByteS_calls _ hl vb).mono ?_
  rintro e wc ⟨g1, rfl, og, hc⟩
  have hC := hB'.trans hc
  have vx := og.view (hi := wc.heap.size) (by omega) (fun g hg => (og.lt g hg).2)
  have vc := vb.chg hc (by omega)
  clear hc hB' vb og
  have hN := implKind_calls _ vx hB (HG.out.chg hC (by omega)) (HE.out.chg hC (by omega))
  go_wp2_with fail
  refine hN.mono ?_
  rintro e wd ⟨rfl, hd⟩
  have hD := hC.trans hd
  have vx := vx.chg hd (by omega)
  have vd := vc.chg hd (by omega)
  clear hd hC vc hN
  have hne : (kindOf xs != kindOf xs) = false := by simp
  go_wp2_with fail
  refine (toByteS_calls _ hl vd).mono ?_
  rintro e we ⟨g2, rfl, og, he⟩
  have hE := hD.trans he
  have vx := vx.chg he (by omega)
  have vy := og.view (hi := we.heap.size) (by omega) (fun g hg => (og.lt g hg).2)
  clear he hD vd og hne
  go_wp2_with fail
  refine (eqByteS_calls _ vx vy).mono ?_
  rintro e wf ⟨rfl, hf⟩
  have hF := hE.trans (hf.chg 0 0)
  clear hf hE vx vy
  go_wp2
  go_ret
  exact ⟨rfl, hF.below (by omega)⟩

/-- What the row lists. -/
abbrev lk : List (String × DataW Unit) := Rows.fnExactBlockKindRow.laid

theorem glob_of_laid {W : World} (h : laidMetH Tryd.prog lk W) : (∃ tL tM tK vL vM vK, Glob W tL tM tK vL vM vK) ∧ ErrT W := by
  have h' : laidMet Tryd.prog [("loop.example/s01525/impl.errLength", Rows.laid_loop_example_s01525_impl_errLength), ("loop.example/s01525/impl.errMagic", Rows.laid_loop_example_s01525_impl_errMagic), ("loop.example/s01525/impl.errKind", Rows.laid_loop_example_s01525_impl_errKind), ("loop.example/s01525/impl.journalMagic", Rows.laid_loop_example_s01525_impl_journalMagic)] W ∧ handlesMet Tryd.prog [("errors.errorType", Rows.laid_errors_errorType)] W := h
  obtain ⟨hl, hh⟩ := h'
  obtain ⟨a0, c0⟩ := sent_of_laid (g := 0) hl (by kernel_rfl) (by kernel_rfl)
  obtain ⟨a1, c1⟩ := sent_of_laid (g := 2) hl.tail (by kernel_rfl) (by kernel_rfl)
  obtain ⟨a2, c2⟩ := sent_of_laid (g := 3) hl.tail.tail (by kernel_rfl) (by kernel_rfl)
  obtain ⟨m0, m1, m2, m3⟩ := magic_of_laid hl.tail.tail.tail
  exact ⟨⟨_, _, _, _, _, _, c0, c1, c2, m0, m1, m2, m3⟩, errT_of_handles hh (List.mem_singleton.2 rfl)⟩

/-- A world that meets the condition. -/
def low (p : Program) : Nat := (World.holding p default ⟨#[], #[], []⟩).heap.size
def laidWorld (p : Program) (os : Os) : World :=
  let w0 := World.holding p os ⟨#[.cells #[.string { data := #[110, 111, 116, 32, 97, 115, 32, 108, 111, 110, 103, 32, 97, 115, 32, 97, 32, 98, 108, 111, 99, 107] }] 98, .cells #[.string { data := #[100, 111, 101, 115, 32, 110, 111, 116, 32, 98, 101, 103, 105, 110, 32, 119, 105, 116, 104, 32, 116, 104, 101, 32, 109, 97, 103, 105, 99] }] 98, .cells #[.string { data := #[111, 102, 32, 110, 111, 32, 107, 105, 110, 100, 44, 32, 111, 114, 32, 111, 102, 32, 97, 110, 111, 116, 104, 101, 114, 32, 111, 110, 101] }] 98], #[], []⟩
  { w0 with heap := ((((w0.heap.modify 0 fun
      | .cells _ t frozen => .cells #[.iface 75 (.pointer (some ⟨low p, 0, none⟩))] t frozen
      | o => o).modify 2 fun
      | .cells _ t frozen => .cells #[.iface 75 (.pointer (some ⟨low p + 1, 0, none⟩))] t frozen
      | o => o).modify 3 fun
      | .cells _ t frozen => .cells #[.iface 75 (.pointer (some ⟨low p + 2, 0, none⟩))] t frozen
      | o => o).modify 1 fun
      | .cells _ t frozen => .cells #[.int .u8 106, .int .u8 108, .int .u8 111, .int .u8 103] t frozen
      | o => o).modify 4 fun
      | .cells _ t frozen => .cells #[.iface 62 (.agg #[.pointer (some ⟨5, 33, none⟩)])] t frozen
      | o => o }

theorem laidWorld_met (os : Os) (args : Array Value) : laidMetH Tryd.prog lk ((laidWorld Tryd.prog os).forCall (fun _ _ => 0) ⟨#[], args, []⟩).memory :=
  laidMetH_of_parts (laidMet_of_run (ps := [.cell 0 0, .cell (low Tryd.prog) 0, .cell 2 0, .cell (low Tryd.prog + 1) 0, .cell 3 0, .cell (low Tryd.prog + 2) 0, .cell 1 0, .cell 1 1, .cell 1 2, .cell 1 3]) 8 (by kernel_rfl) (by kernel_rfl) (by kernel_rfl)) (by kernel_rfl)

set_option maxRecDepth 100000 in
theorem lawBlockKind_lifted (os : Os) (started : os.Started) (H : Type) (enc : TypeId × Value → H) :
    ReturnsInHanded {} Tryd.checked os 3 .any (fun w args => (Rows.fnExactBlockKindSpec.pre enc Tryd.prog Tryd.f3 [] false w args ∧ laidMetH Tryd.prog lk w) ∧ sizedMet enc Tryd.prog Tryd.f3 (OpenSpec.ofChange Rows.fnExactBlockKindSpec) false w args)
      (Rows.fnExactBlockKindSpec.post enc Tryd.prog Tryd.f3 false true false false) := by
  refine returnsInHanded_of_change_and (C := Tryd.checked) (X := fun w _ => laidMetH Tryd.prog lk w) (fun _ _ _ hh h => h.of_heap hh) own started (by kernel_rfl) Tryd.func3
    (ChangeSpec.witness_at (enc := enc) (C := Tryd.checked) (os := os) (X := fun w _ => laidMetH Tryd.prog lk w) false (laidWorld Tryd.prog os) #[.slice none 0 0] 8 rfl (by kernel_rfl) (by kernel_rfl) (by kernel_rfl) (by kernel_rfl) (by kernel_rfl) (laidWorld_met os _)) ?_
  intro W base args ds gs before hval0 hW _ _ hL _
  have hval : ∀ (j : Nat) t v, Tryd.f3.params[j]? = some t → args[j]? = some v → Value.okWide Tryd.prog W .any base t v := hval0
  have hW' := hW
  obtain ⟨p, q, hA0, hV0, rfl, hfz, hnd⟩ := hW
  have hA : DataW.TrodAll enc Tryd.prog W 0 (fun _ => true) true Tryd.f3.params.toList args.toList ds p := hA0
  rw [Tryd.params3] at hA hval
  obtain ⟨v0, vs0, d0, ds0, p0, q0, hargs, rfl, rfl, h0, r0⟩ := trodAll_cons hA
  obtain ⟨rfl, rfl, rfl⟩ := trodAll_nil r0
  obtain rfl : args = #[v0] := by cases args; simp_all
  have k0 := h0
  have lt0 : ∀ x ∈ p0, x.block < W.heap.size := by obtain ⟨m, hm⟩ := k0; exact DataW.trod_lt m _ _ _ hm
  obtain ⟨ka, kl, kcp, rfl⟩ := okWide_slice Tryd.underlying22 (hval 0 22 v0 rfl rfl)
  obtain ⟨xs, wk, hwf⟩ : ∃ xs, View W 0 W.heap.size .u8 (.slice ka kl kcp) xs ∧ ∀ x ∈ xs, (Lit.int .u8 x).wf = true := by
    obtain ⟨fuel, hf⟩ := h0
    exact view_wf_of_trod Tryd.underlying22 Tryd.underlying5 (by kernel_rfl) hf
  obtain ⟨⟨tL, tM, tK, vL, vM, vK, hG⟩, hE⟩ := glob_of_laid hL
  obtain ⟨g1, g2, g3, g4, rfl⟩ : ∃ g1 g2 g3 g4, gs = [g1, g2, g3, g4] := by
    match gs, hV0 with
    | [g1, g2, g3, g4], _ => exact ⟨g1, g2, g3, g4, rfl⟩
  clear hA0 hval0
  refine (lawBlockKind_walk W (byt_of_wf hwf) wk hG hE).mono fun e W' ⟨he, bel⟩ => ?_
  subst he
  exact ⟨_, rfl, _, _, _, [], _, _, hW', trodAll_mk1 (shut_bool Tryd.underlying4 _), (trodAll_cons_mk (Below.trod laidOut (by kernel_rfl) (of_decide_eq_true (by kernel_rfl)) k0 bel lt0) trodAll_mk0), Below.trodVars laidOut bel (by kernel_rfl) hV0, bel.frame _, fun h => by cases h⟩

theorem fnExactBlockKind_row : Rows.FnExactBlockKindSaid :=
  OpenClaim.holds_of_wide 3 Tryd.f3 rfl rfl rfl rfl rfl rfl rfl ⟨rfl, rfl, rfl, rfl, rfl⟩ rfl rfl rfl rfl rfl (by kernel_rfl) Tryd.func3 (by kernel_rfl)
    (of_decide_eq_true (by kernel_rfl)) (by unfold Func.isWrapper; first | (rw [if_pos (by decide +kernel)]; kernel_rfl) | (rw [if_neg (by decide +kernel)]; exact ⟨rfl, rfl⟩))
    (fun os started H enc _ => lawBlockKind_lifted os started H enc)
#print axioms fnExactBlockKind_row
end Go.Proofs.YteackjpnhnfkbaaDoor

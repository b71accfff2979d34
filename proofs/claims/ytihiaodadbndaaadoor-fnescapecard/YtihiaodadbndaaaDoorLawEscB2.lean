/- The law on blocks that are escaped and come back: its row. -/
import Derived.Test.YtihiaodadbndaaaDoorLawEscB
import Derived.Test.YtihiaodadbndaaaDoorLaidG
import Derived.Test.YtihiaodadbndaaaDoorOpenB
import Derived.Stop.LaidTwo
namespace Go.Proofs.YtihiaodadbndaaaDoor
open Go.ChangeShapes Go.WideShapes Go.ChangeAt Go.RowKit

/-- One listed variable is left out. -/
theorem laidMet_skip {P : Program} {x y : String × DataW Unit} {r : List (String × DataW Unit)} {w : World} (h : laidMet P (x :: y :: r) w) : laidMet P (x :: r) w := by
  obtain ⟨ps, hv, hnd, hrows⟩ := h
  obtain ⟨n, d⟩ := x
  obtain ⟨n', d'⟩ := y
  obtain ⟨g, t, cs, fuel, p, q, h1, h2, h3, h4, ⟨g', t', cs', fuel', p', q', _, _, _, _, hq, rfl⟩, rfl⟩ := hv
  refine ⟨_, ⟨g, t, cs, fuel, p, q', h1, h2, h3, h4, hq, rfl⟩, ?_, fun b off hm => hrows b off ?_⟩
  · refine List.Nodup.sublist ?_ hnd
    exact List.Sublist.append (List.Sublist.refl _) (List.sublist_append_right _ _)
  · simp only [List.mem_append] at hm ⊢
    rcases hm with hm | hm
    · exact Or.inl hm
    · exact Or.inr (Or.inr hm)

theorem two_of_laid {W : World} {n0 n1 : String} {x0 x1 : List UInt8} {r : List (String × DataW Unit)} {g0 g1 : Nat} (h : laidMet Tryd.prog ((n0, .iface "*errors.errorString" (.ptr (.agg [.lit (.string x0)]))) :: (n1, .iface "*errors.errorString" (.ptr (.agg [.lit (.string x1)]))) :: r) W)
    (hg0 : Tryd.prog.globalNamed n0 = some g0) (ht0 : (Tryd.prog.globals[g0]?).map (·.type) = some 41) (hg1 : Tryd.prog.globalNamed n1 = some g1) (ht1 : (Tryd.prog.globals[g1]?).map (·.type) = some 41) :
    ∃ a0 a1, W.cell? ⟨g0, 0, none⟩ = some (.iface 93 (.pointer (some a0))) ∧ W.cell? ⟨g1, 0, none⟩ = some (.iface 93 (.pointer (some a1))) ∧ a1 ≠ a0 ∧ (∃ c t, W.heap[a0.block]? = some (.cells c t (0, 0))) ∧ ∃ c t, W.heap[a1.block]? = some (.cells c t (0, 0)) := by
  obtain ⟨a0, a1, _, _, c0, c1, t0, t1, hv0, hv1, _, _, _, _, _, _, hne, hb0, hb1⟩ := laid_sentinels2 h hg0 ht0 hg1 ht1 Tryd.underlying41 lg_row Tryd.underlying93 Tryd.underlying116 rfl rfl Tryd.underlying9 (by kernel_rfl) (by kernel_rfl)
  exact ⟨a0, a1, by simpa using World.var?_cell hg0 hv0 0, by simpa using World.var?_cell hg1 hv1 0, fun e => hne e.symm, ⟨c0, t0, hb0⟩, c1, t1, hb1⟩

/-- What the row lists. -/
abbrev lk : List (String × DataW Unit) := Rows.fnEscapeRow.laid

theorem globE_of_laid {W : World} (h : laidMetH Tryd.prog lk W) : (∃ aL aM aK, GlobA W aL aM aK) ∧ ErrT W := by
  have h' : laidMet Tryd.prog [("loop.example/s01525/impl.errLength", Rows.laid_loop_example_s01525_impl_errLength), ("loop.example/s01525/impl.errMagic", Rows.laid_loop_example_s01525_impl_errMagic), ("loop.example/s01525/impl.errKind", Rows.laid_loop_example_s01525_impl_errKind), ("loop.example/s01525/impl.journalMagic", Rows.laid_loop_example_s01525_impl_journalMagic)] W ∧ handlesMet Tryd.prog [("errors.errorType", Rows.laid_errors_errorType)] W := h
  obtain ⟨hl, hh⟩ := h'
  obtain ⟨a0, a1, c0, c1, n1, r0, r1⟩ := two_of_laid (g0 := 0) (g1 := 2) hl (by kernel_rfl) (by kernel_rfl) (by kernel_rfl) (by kernel_rfl)
  obtain ⟨b0, a2, d0, c2, n2, _, r2⟩ := two_of_laid (g0 := 0) (g1 := 3) (laidMet_skip hl) (by kernel_rfl) (by kernel_rfl) (by kernel_rfl) (by kernel_rfl)
  have e : b0 = a0 := by
    rw [c0] at d0
    simp only [Option.some.injEq, Value.iface.injEq, Value.pointer.injEq, true_and] at d0
    exact d0.symm
  subst e
  obtain ⟨m0, m1, m2, m3⟩ := magic_of_laid hl.tail.tail.tail
  exact ⟨⟨_, _, _, ⟨c0, c1, c2, m0, m1, m2, m3⟩, n1, n2, r0, r1, r2⟩, errT_of_handles hh (List.mem_singleton.2 rfl)⟩

/-- A world that meets the condition. -/
def low (p : Program) : Nat := (World.holding p default ⟨#[], #[], []⟩).heap.size
def laidWorld (p : Program) (os : Os) : World :=
  let w0 := World.holding p os ⟨#[.cells #[.string { data := #[110, 111, 116, 32, 97, 115, 32, 108, 111, 110, 103, 32, 97, 115, 32, 97, 32, 98, 108, 111, 99, 107] }] 116, .cells #[.string { data := #[100, 111, 101, 115, 32, 110, 111, 116, 32, 98, 101, 103, 105, 110, 32, 119, 105, 116, 104, 32, 116, 104, 101, 32, 109, 97, 103, 105, 99] }] 116, .cells #[.string { data := #[111, 102, 32, 110, 111, 32, 107, 105, 110, 100, 44, 32, 111, 114, 32, 111, 102, 32, 97, 110, 111, 116, 104, 101, 114, 32, 111, 110, 101] }] 116], #[], []⟩
  { w0 with heap := ((((w0.heap.modify 0 fun
      | .cells _ t frozen => .cells #[.iface 93 (.pointer (some ⟨low p, 0, none⟩))] t frozen
      | o => o).modify 2 fun
      | .cells _ t frozen => .cells #[.iface 93 (.pointer (some ⟨low p + 1, 0, none⟩))] t frozen
      | o => o).modify 3 fun
      | .cells _ t frozen => .cells #[.iface 93 (.pointer (some ⟨low p + 2, 0, none⟩))] t frozen
      | o => o).modify 1 fun
      | .cells _ t frozen => .cells #[.int .u8 106, .int .u8 108, .int .u8 111, .int .u8 103] t frozen
      | o => o).modify 4 fun
      | .cells _ t frozen => .cells #[.iface 67 (.agg #[.pointer (some ⟨5, 41, none⟩)])] t frozen
      | o => o }

theorem laidWorld_met (os : Os) (args : Array Value) : laidMetH Tryd.prog lk ((laidWorld Tryd.prog os).forCall (fun _ _ => 0) ⟨#[], args, []⟩).memory :=
  laidMetH_of_parts (laidMet_of_run (ps := [.cell 0 0, .cell (low Tryd.prog) 0, .cell 2 0, .cell (low Tryd.prog + 1) 0, .cell 3 0, .cell (low Tryd.prog + 2) 0, .cell 1 0, .cell 1 1, .cell 1 2, .cell 1 3]) 8 (by kernel_rfl) (by kernel_rfl) (by kernel_rfl)) (by kernel_rfl)

set_option maxRecDepth 100000 in
theorem lawEscB_lifted (os : Os) (started : os.Started) (H : Type) (enc : TypeId × Value → H) :
    ReturnsInHanded {} Tryd.checked os 3 .any (fun w args => (Rows.fnEscapeSpec.pre enc Tryd.prog Tryd.f3 [] false w args ∧ laidMetH Tryd.prog lk w) ∧ sizedMet enc Tryd.prog Tryd.f3 (OpenSpec.ofChange Rows.fnEscapeSpec) false w args)
      (Rows.fnEscapeSpec.post enc Tryd.prog Tryd.f3 false true false false) := by
  refine returnsInHanded_of_change_and (C := Tryd.checked) (X := fun w _ => laidMetH Tryd.prog lk w) (fun _ _ _ hh h => h.of_heap hh) own started (by kernel_rfl) Tryd.func3
    (ChangeSpec.witness_at (enc := enc) (C := Tryd.checked) (os := os) (X := fun w _ => laidMetH Tryd.prog lk w) false (laidWorld Tryd.prog os) #[.slice none 0 0] 8 rfl (by kernel_rfl) (by kernel_rfl) (by kernel_rfl) (by kernel_rfl) (by kernel_rfl) (laidWorld_met os _)) ?_
  intro W base args ds gs before hval0 hW _ _ hL _
  have hval : ∀ (j : Nat) t v, Tryd.f3.params[j]? = some t → args[j]? = some v → Value.okWide Tryd.prog W .any base t v := hval0
  have hW' := hW
  obtain ⟨p, q, hA0, hV0, rfl, hfz, hnd⟩ := hW
  have hA : DataW.TrodAll enc Tryd.prog W 0 (fun _ => true) true Tryd.f3.params.toList args.toList ds p := hA0
  rw [Tryd.params3] at hA hval
  obtain ⟨v0, vs0, d0, ds0, p0, q0, hargs, rfl, rfl, h0, r0⟩ := trodAll_cons hA
  obtain ⟨rfl, rfl, rfl⟩ := trodAll_nil r0
  obtain rfl : args = #[v0] := by cases args; simp_all
  have k0 := h0
  have lt0 : ∀ x ∈ p0, x.block < W.heap.size := by obtain ⟨m, hm⟩ := k0; exact DataW.trod_lt m _ _ _ hm
  obtain ⟨ka, kl, kcp, rfl⟩ := okWide_slice Tryd.underlying22 (hval 0 22 v0 rfl rfl)
  obtain ⟨xs, wk, hwf⟩ : ∃ xs, View W 0 W.heap.size .u8 (.slice ka kl kcp) xs ∧ ∀ x ∈ xs, (Lit.int .u8 x).wf = true := by
    obtain ⟨fuel, hf⟩ := h0
    exact view_wf_of_trod Tryd.underlying22 Tryd.underlying5 (by kernel_rfl) hf
  obtain ⟨⟨aL, aM, aK, hG⟩, hE⟩ := globE_of_laid hL
  obtain ⟨g1, g2, g3, g4, rfl⟩ : ∃ g1 g2 g3 g4, gs = [g1, g2, g3, g4] := by
    match gs, hV0 with
    | [g1, g2, g3, g4], _ => exact ⟨g1, g2, g3, g4, rfl⟩
  clear hA0 hval0
  refine (lawEscB_walk W (byt_of_wf hwf) wk (Nat.le_refl _) hG hE).mono fun e W' ⟨he, bel⟩ => ?_
  subst he
  exact ⟨_, rfl, _, _, _, [], _, _, hW', trodAll_mk1 (shut_bool Tryd.underlying4 _), (trodAll_cons_mk (Below.trod laidOut (by kernel_rfl) (of_decide_eq_true (by kernel_rfl)) k0 bel lt0) trodAll_mk0), Below.trodVars laidOut bel (by kernel_rfl) hV0, bel.frame _, fun h => by cases h⟩

theorem fnEscape_row : Rows.FnEscapeSaid :=
  OpenClaim.holds_of_wide 3 Tryd.f3 rfl rfl rfl rfl rfl rfl rfl ⟨rfl, rfl, rfl, rfl, rfl⟩ rfl rfl rfl rfl rfl (by kernel_rfl) Tryd.func3 (by kernel_rfl)
    (of_decide_eq_true (by kernel_rfl)) (by unfold Func.isWrapper; first | (rw [if_pos (by decide +kernel)]; kernel_rfl) | (rw [if_neg (by decide +kernel)]; exact ⟨rfl, rfl⟩))
    (fun os started H enc _ => lawEscB_lifted os started H enc)
#print axioms fnEscape_row
end Go.Proofs.YtihiaodadbndaaaDoor

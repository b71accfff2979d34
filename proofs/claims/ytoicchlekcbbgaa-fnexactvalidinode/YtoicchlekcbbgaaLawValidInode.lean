/- The law on ValidInode. -/
import Derived.Test.YtoicchlekcbbgaaImplIno
import Derived.Test.YtoicchlekcbbgaaOpenIno
import Derived.Deep.RegionWith
namespace Go.Proofs.Ytoicchlekcbbgaa
open Go.ChangeShapes Go.WideShapes Go.ChangeAt Go.RowKit

theorem ino_cells {w : World} {s : Nat} {a b c d e : Value} {t : TypeId} (h : w.heap[s]? = some (.cells #[a, b, c, d, e] t (0, 0))) :
    w.cell? ⟨s, 0, none⟩ = some a ∧ w.cell? ⟨s, 1, none⟩ = some b ∧ w.cell? ⟨s, 2, none⟩ = some c ∧ w.cell? ⟨s, 3, none⟩ = some d ∧ w.cell? ⟨s, 4, none⟩ = some e := (ino_all h).1

set_option maxRecDepth 20000 in
set_option maxHeartbeats 2000000 in
theorem lawValidInode_walk (w : World) (i : Ino) (ao : Option Addr) (cap : Nat) (h1 : View w 0 w.heap.size .i64 (.slice ao i.dir.length cap) i.dir) :
    Calls Try.prog 3 #[inoV i ao cap] w fun e w' => e = .returned (.bool true) ∧ Below w.heap.size w w' := by
  have HT : Hid (View w 0 w.heap.size .i64 (.slice ao i.dir.length cap) i.dir) := h1
  obtain ⟨_, _, _, hl0, _, _⟩ := h1
  have HA : Hid (Chg 0 0 w (w.alloc (inoO 24 i ao cap))) := Chg.alloc (Chg.refl 0 0 w) _
  have s0 : (w.alloc (inoO 24 i ao cap)).heap.size = w.heap.size + 1 := by simp
  have HB : Hid ((w.alloc (inoO 24 i ao cap)).heap[w.heap.size]? = some (.cells #[.int .i64 i.kind, .int .i64 i.links, .int .i64 i.size, .slice ao i.dir.length cap, .int .i64 i.ind] 24 (0, 0))) := heap_new w _
  have hN := szInode_calls (w.alloc (inoO 24 i ao cap)) i ao cap 1048576 hl0 (by omega)
  go_enter Try.func3, Try.ntmps3
  go_wp2_with fail
  generalize w.alloc (inoO 24 i ao cap) = w0 at *
  refine hN.mono ?_
  rintro e w1 ⟨rfl, h1⟩
  have HA1 : Hid (Chg 0 0 w w1) := HA.out.trans h1
  have HB1 : Hid (w1.heap[w.heap.size]? = some (.cells #[.int .i64 i.kind, .int .i64 i.links, .int .i64 i.size, .slice ao i.dir.length cap, .int .i64 i.ind] 24 (0, 0))) := (h1.block _ (by omega) (by omega)).trans HB.out
  have s1 := h1.size
  clear hN h1
  by_cases hl : i.dir.length ≤ 1048576
  case neg =>
    rw [lft_neg hl]
    clear hl
    go_wp2
    go_ret
    exact ⟨rfl, HA1.out.below (by omega)⟩
  rw [lft_pos hl]
  have Hl : Hid (i.dir.length ≤ 1048576) := hl
  have hp : ¬ ((1048576 - i.dir.length : Nat) : Int) < 0 := by omega
  clear hl
  generalize 1048576 - i.dir.length = lf at *
  obtain ⟨k0, k1, k2, k3, k4⟩ := ino_cells HB1.out
  have hN := toInode_calls w1 i ao cap Hl.out (HT.out.chg HA1.out (by omega))
  go_wp2_with fail
  refine hN.mono ?_
  rintro e w2 ⟨g, rfl, tv, h2⟩
  have HA2 : Hid (Chg 0 0 w w2) := HA1.out.trans h2
  have HB2 : Hid (w2.heap[w.heap.size]? = some (.cells #[.int .i64 i.kind, .int .i64 i.links, .int .i64 i.size, .slice ao i.dir.length cap, .int .i64 i.ind] 24 (0, 0))) := (h2.block _ (by omega) (by omega)).trans HB1.out
  have s2 := h2.size
  have hN2 := specValidInode_calls w2 i (some ⟨g, 0, none⟩) i.dir.length Hl.out tv
  clear hN tv h2 k0 k1 k2 k3 k4
  go_wp2_with fail
  refine hN2.mono ?_
  rintro e w3 ⟨rfl, h3⟩
  have HA3 : Hid (Chg 0 0 w w3) := HA2.out.trans h3
  have HB3 : Hid (w3.heap[w.heap.size]? = some (.cells #[.int .i64 i.kind, .int .i64 i.links, .int .i64 i.size, .slice ao i.dir.length cap, .int .i64 i.ind] 24 (0, 0))) := (h3.block _ (by omega) (by omega)).trans HB2.out
  have s3 := h3.size
  obtain ⟨bv, Hbv⟩ : ∃ b, Hid (b = inoB i) := ⟨_, rfl⟩
  rw [← Hbv.out]
  clear hN2 h3
  obtain ⟨k0, k1, k2, k3, k4⟩ := ino_cells HB3.out
  have hN := toInode_calls w3 i ao cap Hl.out (HT.out.chg HA3.out (by omega))
  go_wp2_with fail
  refine hN.mono ?_
  rintro e w4 ⟨g4, rfl, tv, h4⟩
  have s4 := h4.size
  have cB : Chg 0 0 w4 (w4.alloc (inoO 27 i (some ⟨g4, 0, none⟩) i.dir.length)) := Chg.alloc (Chg.refl 0 0 w4) _
  have HA4 : Hid (Chg 0 0 w (w4.alloc (inoO 27 i (some ⟨g4, 0, none⟩) i.dir.length))) := (HA3.out.trans h4).trans cB
  have HB4 : Hid ((w4.alloc (inoO 27 i (some ⟨g4, 0, none⟩) i.dir.length)).heap[w.heap.size]? = some (.cells #[.int .i64 i.kind, .int .i64 i.links, .int .i64 i.size, .slice ao i.dir.length cap, .int .i64 i.ind] 24 (0, 0))) := ((h4.trans cB).block _ (by omega) (by omega)).trans HB3.out
  have HX4 : Hid ((w4.alloc (inoO 27 i (some ⟨g4, 0, none⟩) i.dir.length)).heap[w4.heap.size]? = some (.cells #[.int .i64 i.kind, .int .i64 i.links, .int .i64 i.size, .slice (some ⟨g4, 0, none⟩) i.dir.length i.dir.length, .int .i64 i.ind] 27 (0, 0))) := heap_new w4 _
  have HTX : Hid (View (w4.alloc (inoO 27 i (some ⟨g4, 0, none⟩) i.dir.length)) w3.heap.size w4.heap.size .i64 (.slice (some ⟨g4, 0, none⟩) i.dir.length i.dir.length) i.dir) := tv.chg cB (by omega)
  have s5 : (w4.alloc (inoO 27 i (some ⟨g4, 0, none⟩) i.dir.length)).heap.size = w4.heap.size + 1 := by simp
  have hN2 := implValidInode_calls (w4.alloc (inoO 27 i (some ⟨g4, 0, none⟩) i.dir.length)) i (some ⟨g4, 0, none⟩) i.dir.length Hl.out HTX.out
  rw [← Hbv.out] at hN2
  clear hN tv h4 k0 k1 k2 k3 k4 cB
  go_wp2_with fail
  generalize w4.alloc (inoO 27 i (some ⟨g4, 0, none⟩) i.dir.length) = w5 at *
  refine hN2.mono ?_
  rintro e w6 ⟨rfl, h6⟩
  have s6 := h6.size
  have HA6 : Hid (Chg 0 0 w w6) := HA4.out.trans h6
  have HB6 : Hid (w6.heap[w.heap.size]? = some (.cells #[.int .i64 i.kind, .int .i64 i.links, .int .i64 i.size, .slice ao i.dir.length cap, .int .i64 i.ind] 24 (0, 0))) := (h6.block _ (by omega) (by omega)).trans HB4.out
  have HX6 : Hid (w6.heap[w4.heap.size]? = some (.cells #[.int .i64 i.kind, .int .i64 i.links, .int .i64 i.size, .slice (some ⟨g4, 0, none⟩) i.dir.length i.dir.length, .int .i64 i.ind] 27 (0, 0))) := (h6.block _ (by omega) (by omega)).trans HX4.out
  have HTX6 : Hid (View w6 w3.heap.size w4.heap.size .i64 (.slice (some ⟨g4, 0, none⟩) i.dir.length i.dir.length) i.dir) := HTX.out.chg h6 (by omega)
  have hne : (bv != bv) = false := by simp
  obtain ⟨k0, k1, k2, k3, k4⟩ := ino_cells HB6.out
  obtain ⟨x0, x1, x2, x3, x4⟩ := ino_cells HX6.out
  have hN := toInode_calls w6.drew i ao cap Hl.out (HT.out.chg HA6.out.drew (by omega))
  clear hN2 h6
  go_wp2
  go_region_with (first
    | (go_at_call 6; refine hN.mono ?_; rintro e w7 ⟨zg, rfl, zt, h7⟩; have y0 := h7.cell (show w6.drew.cell? ⟨w4.heap.size, 0, none⟩ = _ from x0) (by omega); have y1 := h7.cell (show w6.drew.cell? ⟨w4.heap.size, 1, none⟩ = _ from x1) (by omega); have y2 := h7.cell (show w6.drew.cell? ⟨w4.heap.size, 2, none⟩ = _ from x2) (by omega); have y3 := h7.cell (show w6.drew.cell? ⟨w4.heap.size, 3, none⟩ = _ from x3) (by omega); have y4 := h7.cell (show w6.drew.cell? ⟨w4.heap.size, 4, none⟩ = _ from x4) (by omega))
    | (go_at_call 8; refine (eqInode_calls _ i _ _ _ _ (HTX6.out.chg ((Chg.drew (Chg.refl 0 0 w6)).trans h7) (by omega)) zt).mono ?_; rintro e w8 ⟨rfl, h8⟩))
  all_goals
    have HA8 : Hid (Chg 0 0 w w8) := (HA6.out.drew.trans h7).trans h8
    clear h7 h8 zt
    go_wp2
    go_ret
    exact ⟨rfl, HA8.out.below (by omega)⟩

set_option maxRecDepth 100000 in
theorem lawValidInode_lifted (os : Os) (started : os.Started) (H : Type) (enc : TypeId × Value → H) :
    ReturnsInHanded {} Try.checked os 3 .any (Rows.fnExactValidInodeSpec.pre6 enc Try.prog Try.f3 Rows.fnExactValidInodeRow.domain false) (Rows.fnExactValidInodeSpec.post enc Try.prog Try.f3 false true false false) := by
  refine returnsInHanded_of_change (C := Try.checked) own started (by kernel_rfl) Try.func3
    (ChangeSpec.witness6 (enc := enc) (C := Try.checked) false ⟨#[], #[.agg #[.int .i64 0, .int .i64 0, .int .i64 0, .slice none 0 0, .int .i64 0]], []⟩ 8 (by kernel_rfl) (by kernel_rfl) (by kernel_rfl) (by kernel_rfl)) ?_
  intro W base args ds gs before hval0 hW hcnd _
  have hval : ∀ (j : Nat) t v, Try.f3.params[j]? = some t → args[j]? = some v → Value.okWide Try.prog W .any base t v := hval0
  have hW' := hW
  obtain ⟨p, q, hA0, hV, rfl, hfz, hnd⟩ := hW
  have hA : DataW.TrodAll enc Try.prog W 0 (fun _ => true) true Try.f3.params.toList args.toList ds p := hA0
  rw [Try.params3] at hA hval
  obtain ⟨v0, vs0, d0, ds0, p0, q0, hargs, rfl, rfl, h0, r0⟩ := trodAll_cons hA
  obtain ⟨rfl, rfl, rfl⟩ := trodAll_nil r0
  obtain rfl : args = #[v0] := by cases args; simp_all
  obtain ⟨rfl, rfl⟩ := trodVars_none hV
  have k0 := h0
  have lt0 : ∀ x ∈ p0, x.block < W.heap.size := by obtain ⟨m, hm⟩ := k0; exact DataW.trod_lt m _ _ _ hm
  obtain ⟨i, ao, cap, rfl, hT⟩ := ino_of_trod (hval 0 24 v0 rfl rfl) h0
  clear hA0 hval0
  refine (lawValidInode_walk W i ao cap hT).mono fun e W' ⟨he, bel⟩ => ?_
  subst he
  exact ⟨_, rfl, _, _, _, [], _, [], hW', trodAll_mk1 (shut_bool Try.underlying4 _), (trodAll_cons_mk (Below.trod laidOut (by kernel_rfl) (of_decide_eq_true (by kernel_rfl)) k0 bel lt0) trodAll_mk0), rfl, bel.frame _, fun h => by cases h⟩

theorem fnExactValidInode_holds : Rows.FnExactValidInodeSaid :=
  OpenClaim.holds_of_wide 3 Try.f3 rfl rfl rfl rfl rfl rfl rfl ⟨rfl, rfl, rfl, rfl, rfl⟩ rfl rfl rfl rfl rfl (by kernel_rfl) Try.func3 (by kernel_rfl)
    (of_decide_eq_true (by kernel_rfl)) (by unfold Func.isWrapper; first | (rw [if_pos (by decide +kernel)]; kernel_rfl) | (rw [if_neg (by decide +kernel)]; exact ⟨rfl, rfl⟩))
    (fun os started H enc _ => lawValidInode_lifted os started H enc)
#print axioms fnExactValidInode_holds
end Go.Proofs.Ytoicchlekcbbgaa

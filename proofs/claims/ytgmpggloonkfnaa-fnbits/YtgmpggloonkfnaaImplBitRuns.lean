/- BitRuns of the program. -/
import Derived.Test.YtgmpggloonkfnaaRunsMath2
import Derived.Test.YtgmpggloonkfnaaImplFirst
namespace Go.Proofs.Ytgmpggloonkfnaa
open Go.RowKit Go.Shelf
attribute [local go_sem] Oper.semAt_some

set_option maxRecDepth 100000 in
set_option maxHeartbeats 4000000 in
theorem implBitRuns_calls (w : World) {lo hi : Nat} {a : Value} {xs : List Int} (f t : Int) (hB : Byt xs) (hl : xs.length ≤ 1048576) (h1 : View w lo hi .u8 a xs) :
    Calls Try.prog 5 #[a, .int .i64 f, .int .i64 t] w fun e w' => ∃ v K, e = .returned v ∧ OwnF 2 w' w.heap.size 29 v K (runsD xs f t) ∧ K ≤ 16384 ∧ Chg 0 0 w w' := by
  obtain ⟨ti, hti, hz0, hz1, hz2⟩ := info_parts Try.infoR
  have HD : Hid (runsD xs f t = flat (runsL (mapL xs) (cutE (mapL xs).length f t) 16385 (cutA (mapL xs).length f))) := runs_cut xs f t
  have hV0 : View w 0 w.heap.size .u8 a xs := h1.here
  have hN := bitsOf_calls (w.alloc (.cells #[.slice none 0 0] 25)) hl (hV0.chg (Chg.alloc (Chg.refl 0 0 w) _) (by omega))
  have HB := mapL_byt hB
  have hL := mapL_len xs
  have hlen : (runsL (mapL xs) (cutE (mapL xs).length f t) 16385 (cutA (mapL xs).length f)).length ≤ 16384 := by
    have := runsL_len2 (mapL xs) (cutE (mapL xs).length f t) 16385 (cutA (mapL xs).length f) (cut_bounds _ f t).1
    have := (cut_bounds (mapL xs).length f t).2
    omega
  refine (callsIn_wide (n := 5)).1 ?_
  refine (CallsIn.mono (R := fun e w' => ∃ v K, e = .returned v ∧ OwnF 2 w' w.heap.size 29 v K (runsD xs f t) ∧ K ≤ 16384 ∧ Below w.heap.size w w') ?_ fun e w' h => by obtain ⟨v, K, h1, h2, h3, h4⟩ := h; exact ⟨v, K, h1, h2, h3, Chg.ofBelow h4 0 0⟩)
  rw [HD.out]
  generalize mapL xs = ys at *
  clear h1 hB hl hV0 HD
  obtain ⟨R, HR⟩ : ∃ R, Hid (runsL ys (cutE ys.length f t) 16385 (cutA ys.length f) = R) := ⟨_, rfl⟩
  rw [HR.out] at hlen
  rw [HR.out]
  refine callsIn_of_wp_marks Try.func5 rfl trivial ?_ rfl
  simp only [Try.ntmps5, List.size_toArray, List.length_cons, List.length_nil, Nat.reduceAdd, Nat.reduceSub, Array.replicate_succ, Array.replicate_zero, List.push_toArray, List.append_toArray, List.nil_append, List.cons_append]
  gi_wp2_with (refine ⟨trivial, ?_⟩; gi_at_call 15; refine (callsIn_wide.2 hN).mono ?_; rintro e w1 ⟨⟨v, rfl, hv⟩, rfl⟩)
  obtain ⟨ao, cap, rfl, _, _, _⟩ := id hv
  have hR := freeRuns_calls (w.alloc (.cells #[.slice none 0 0] 25)) ao ys.length cap f t
  obtain ⟨t0, t1, t2, t3, t4⟩ := three_facts (w.alloc (.cells #[.slice none 0 0] 25)) (.slice ao ys.length cap) f t
  have hsz : (w.alloc (.cells #[.slice none 0 0] 25)).heap.size = w.heap.size + 1 := by simp
  have hbx : Boxed (three (w.alloc (.cells #[.slice none 0 0] 25)) (.slice ao ys.length cap) f t) w.heap.size 25 (.slice none 0 0) := (t4.block w.heap.size (by omega)).trans (heap_new w _)
  have hB0 : Below w.heap.size w (three (w.alloc (.cells #[.slice none 0 0] 25)) (.slice ao ys.length cap) f t) := ((Below.refl _ w).alloc (Nat.le_refl _) _).trans (t4.mono (by omega))
  rw [hsz] at hR t0 t1 t2 t3
  have hv3 : View (three (w.alloc (.cells #[.slice none 0 0] 25)) (.slice ao ys.length cap) f t) 0 w.heap.size .u8 (.slice ao ys.length cap) ys := hv.kept (K := fun k => k < w.heap.size) (fun k hk => t4.block k (by omega)) (fun i hi => hi)
  generalize three (w.alloc (.cells #[.slice none 0 0] 25)) (.slice ao ys.length cap) f t = wL at *
  clear t4 hN hv
  gi_wp2_with (refine ⟨trivial, ?_⟩; gi_at_call 16; refine (callsIn_wide.2 hR).mono ?_; rintro e w1 ⟨rfl, rfl⟩)
  clear hR
  have hS := runs_stops 4 (by omega) (w.heap.size + 1) (w.heap.size + 1 + 1) (w.heap.size + 1 + 1 + 1) w.heap.size ao cap ys f t w1 HB hL (by omega) hv3 t1 t2 t3
  rw [HR.out] at hS
  refine wpIn_rangeFunc_ownH rfl (by omega) (gf := 25) (lb := #[.pointer (some ⟨w.heap.size + 1, 0, none⟩), .pointer (some ⟨w.heap.size + 1 + 1, 0, none⟩), .pointer (some ⟨w.heap.size + 1 + 1 + 1, 0, none⟩)]) rfl trivial (enters_of Try.func25 (by kernel_rfl) rfl)
    hS KeepK.trans (KeepK.put (by intro k hk; omega)) (Below.refl _ _) (fun _ => rfl)
    (fun pre W => ((∃ v, Boxed W w.heap.size 25 v ∧ OwnF 2 W (w.heap.size + 4) 29 v pre.length (flat pre)) ∧ w.heap.size + 4 ≤ W.heap.size) ∧ Below w.heap.size w W)
    (fun c pre W => False)
    ?hI ?hIx ⟨⟨⟨_, hbx, ⟨rfl, Or.inl ⟨rfl, rfl⟩⟩⟩, by omega⟩, hB0⟩
    (fun x a' W => ∃ Bx, w.heap.size + 4 ≤ Bx ∧ W.heap[Bx]? = some (.cells #[.int .i64 (x.1.1 : Int), .int .i64 (x.1.2 : Int)] 29 (0, 0)) ∧
      a' = { tmps := #[a, .int .i64 f, .int .i64 t, undef, undef, undef, .slice none 0 0, .pointer (some ⟨w.heap.size, 0, none⟩), .pointer (some ⟨Bx, 0, none⟩), a, .slice ao ys.length cap, .int .i64 f, .int .i64 t,
        .func (.func 25) #[] #[.pointer (some ⟨w.heap.size + 1, 0, none⟩), .pointer (some ⟨w.heap.size + 1 + 1, 0, none⟩), .pointer (some ⟨w.heap.size + 1 + 1 + 1, 0, none⟩)], .agg #[.int .i64 (x.1.1 : Int), .int .i64 (x.1.2 : Int)], undef, undef, undef, undef, undef], defers := [] })
    ?hAx ?assign ?body ?done ?stop
  case hI => exact OwnFrom.and (Own.from (fun s A B row hs hg hr => by
      obtain ⟨⟨v, h1, h2⟩, h3⟩ := hs
      refine ⟨⟨v, cells_keep h1 hg hr, ⟨h2.1, ?_⟩⟩, Nat.le_trans h3 hg.size⟩
      rcases h2.2 with h2 | ⟨g, cap, cur, hv, hg', hh, r⟩
      · exact Or.inl h2
      · exact Or.inr ⟨g, cap, cur, hv, hg', cells_keep hh hg hr, r⟩) _) (ownFrom_below (Nat.le_refl _) (by omega))
  case hIx => exact fun c s A B row hs hg hr => hs
  case hAx => exact fun x a' => Own.from (fun s A B row hs hg hr => by obtain ⟨Bx, h1, h2, h3⟩ := hs; exact ⟨Bx, h1, cells_keep h2 hg hr, h3⟩) _
  case assign =>
    rintro l pre x W K ⟨⟨⟨v, hb, ho⟩, hsW⟩, hB⟩ hK
    simp only [encR]
    gi_wp2
    exact hK _ _ ((KeepsOthers.alloc _ _).from _) (fun k hk => Below.heap_alloc _ _ _ (by omega)) ⟨⟨⟨v, Boxed.alloc hb _, ho.chg (Chg.alloc (Chg.refl 0 0 W) _) (by intro g _; omega)⟩, by simp; omega⟩, hB.alloc (by omega) _⟩ ⟨W.heap.size, hsW, heap_new _ _, rfl⟩
  case body =>
    rintro l pre x a' W hl ⟨r, hr⟩ ⟨⟨⟨v, hb, ho⟩, hsW⟩, hB⟩ ⟨Bx, hBx, hx, rfl⟩ hpl
    have c0 : W.cell? ⟨Bx, 0, none⟩ = some (.int .i64 (x.1.1 : Int)) := by simp only [World.cell?, hx]; rfl
    have c1 : W.cell? ⟨Bx, 1, none⟩ = some (.int .i64 (x.1.2 : Int)) := by simp only [World.cell?, hx]; rfl
    have c2 := Boxed.cell hb
    have hx0 : OwnF 2 (W.alloc (.cells #[.int .i64 (x.1.1 : Int), .int .i64 (x.1.2 : Int)] 29)) (w.heap.size + 4) 29 v pre.length (flat pre) := ho.chg (Chg.alloc (Chg.refl 0 0 W) _) (by intro g _; omega)
    have hnew : ∀ j u, [Value.int .i64 (x.1.1 : Int), .int .i64 (x.1.2 : Int)][j]? = some u → (W.alloc (.cells #[.int .i64 (x.1.1 : Int), .int .i64 (x.1.2 : Int)] 29)).cell? ((⟨W.heap.size, 0, none⟩ : Addr).add j) = some u := by
      intro j u hj
      have hn := heap_new W (.cells #[.int .i64 (x.1.1 : Int), .int .i64 (x.1.2 : Int)] 29)
      rw [Go.WideShapes.add_plain, Nat.zero_add]
      simp only [World.cell?, hn]
      simpa using hj
    have hbA := Boxed.alloc hb (.cells #[.int .i64 (x.1.1 : Int), .int .i64 (x.1.2 : Int)] 29)
    have hpb : pre.length ≤ 16384 := by omega
    have hszA : (W.alloc (.cells #[.int .i64 (x.1.1 : Int), .int .i64 (x.1.2 : Int)] 29)).heap.size = W.heap.size + 1 := by simp
    have hKA : KeepK (fun k => k < w.heap.size ∨ k = w.heap.size + 1) W (W.alloc (.cells #[.int .i64 (x.1.1 : Int), .int .i64 (x.1.2 : Int)] 29)) := fun k hk => Below.heap_alloc _ _ _ (by omega)
    have hBA := hB.alloc (by omega) (.cells #[.int .i64 (x.1.1 : Int), .int .i64 (x.1.2 : Int)] 29)
    have hOA := KeepsOthers.alloc W (.cells #[.int .i64 (x.1.1 : Int), .int .i64 (x.1.2 : Int)] 29)
    gi_wp2_with (gi_at_builtin; refine wpListIn_append_own _ rfl (.tmp 15) (.tmp 17) 25 rfl (w.heap.size + 4) 29 ti (.agg #[.int .i64 0, .int .i64 0]) 2 16 Try.underlying25 hti hz0 hz1 hz2 rfl (by decide) v pre.length _ rfl hx0 ⟨W.heap.size, 0, none⟩ 1 1 [.int .i64 (x.1.1 : Int), .int .i64 (x.1.2 : Int)] rfl rfl hnew (by simp [Value.oneCell']) (by unfold maxLen; omega) (by omega) (by omega) ?_; intro v' w2 hown hgrow _; obtain ⟨g', cap', rfl⟩ := ownsRow_succ hown; have hgne : ∀ k, v.ownBlock = some k → w.heap.size + 4 ≤ k := fun k hk => (ho.lt k hk).1; have hb2 : Boxed w2 w.heap.size 25 v := hbA.kept hgrow (fun e => by have := hgne _ e.symm; omega); have d2 := Boxed.cell hb2; have d3 := Boxed.frozen hb2)
    have hg4 : w.heap.size + 4 ≤ g' := by
      rcases hown.2 with ⟨h, _⟩ | ⟨g, cap, cur, hv, hg, _⟩
      · cases h
      · cases hv; exact hg
    have hs2 := hgrow.size
    refine ⟨((hOA.trans (KeepsOthers.of_grownBy hgrow ?_)).trans (KeepsOthers.setCell _ _ _)).from _, (hKA.trans (fun k hk => hgrow.block k (by omega) (fun e => by have := hgne _ e.symm; omega))).trans (fun k hk => Below.heap_setCell _ _ _ _ (by simp only; omega)), ⟨⟨_, Boxed.set _ hb2, ?_⟩, by simp only [World.setCell, Array.size_modify]; omega⟩, ?_⟩
    · intro j o hj ho'
      rcases hx0.2 with ⟨h, _⟩ | ⟨g, cap, cur, hv, hg, hh, _⟩
      · rw [h] at hj; cases hj
      · rw [hv] at hj; cases hj
        rw [hh] at ho'; cases ho'; rfl
    · have hF : OwnF 2 w2 (w.heap.size + 4) 29 (.slice (some ⟨g', 0, none⟩) (pre.length + 1) cap') (pre ++ [x]).length (flat (pre ++ [x])) := by
        unfold OwnF
        rw [flat_snoc, List.map_append, List.length_append]
        exact hown
      exact hF.chg (Chg.setCell (Chg.refl w.heap.size (w.heap.size + 1) w2) (p := ⟨w.heap.size, 0, none⟩) (Or.inl ⟨Nat.le_refl _, Nat.lt_succ_self _⟩) _) (fun g hg => by simp [Value.ownBlock] at hg; omega)
    · exact (hBA.trans ((Below.refl _ _).grown hgrow (by omega) (fun k e => by have := hgne k e; omega))).setCell (p := ⟨w.heap.size, 0, none⟩) (Nat.le_refl _) _
  case done =>
    rintro D ys' W hD rfl ⟨⟨⟨v, hb, ho⟩, hsW⟩, hB⟩ hK
    have c2 := Boxed.cell hb
    gi_wp2
    refine ⟨by simp, .inl ⟨_, _, rfl, run_takeDeferred hK, ?_⟩⟩
    exact ⟨_, results_tmp rfl _ _ _, v, _, rfl, OwnF.base (ownsRow_putObj ho _ hK rfl) (fun g hg => by have := (ho.lt g hg).1; omega), hlen, hB.trans (belowK_b (w := w) (Nat.le_refl _) W D _ _ (by omega) hK rfl rfl)⟩
  case stop =>
    rintro D c pre W _ _ h _
    exact h.elim

end Go.Proofs.Ytgmpggloonkfnaa

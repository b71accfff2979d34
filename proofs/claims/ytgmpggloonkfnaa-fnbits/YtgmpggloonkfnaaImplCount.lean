/- BitCount of the program. -/
import Derived.Test.YtgmpggloonkfnaaImplFirst
namespace Go.Proofs.Ytgmpggloonkfnaa
open Go.RowKit Go.Shelf
attribute [local go_sem] Oper.semAt_some

theorem runsL_len (ys : List Int) (E : Nat) : ∀ (k a : Nat), (runsL ys E k a).length ≤ k
  | 0, _ => Nat.le_refl _
  | k + 1, a => by
    unfold runsL
    split
    · have := runsL_len ys E k (nextAt ys true E (nextAt ys false E a)); simp only [List.length_cons]; omega
    · exact Nat.zero_le _
theorem lens_le : ∀ l : List Rn, lens l ≤ 16384 * l.length
  | [] => Nat.le_refl _
  | x :: l => by have := lens_le l; have := x.2.2; show x.1.2 + lens l ≤ 16384 * (l.length + 1); omega
theorem cutA_again {n A : Nat} (h : A ≤ 8 * n) : cutA n (A : Int) = A := by unfold cutA; omega
theorem cutE_again {n A E : Nat} (h : A ≤ E) (h' : E ≤ 8 * n) : cutE n (A : Int) (E : Int) = E := by unfold cutE; rw [cutA_again (by omega)]; omega

set_option maxRecDepth 100000 in
set_option maxHeartbeats 2000000 in
theorem implBitCount_calls (w : World) {lo hi : Nat} {a : Value} {xs : List Int} (f t : Int) (hB : Byt xs) (hl : xs.length ≤ 1048576) (h1 : View w lo hi .u8 a xs) :
    Calls Try.prog 7 #[a, .int .i64 f, .int .i64 t] w fun e w' => e = .returned (.int .i64 (countD xs f t)) ∧ Chg 0 0 w w' := by
  have HD : Hid (countD xs f t + lens (runsL (mapL xs) (cutE (mapL xs).length f t) 16385 (cutA (mapL xs).length f)) = cutE (mapL xs).length f t - cutA (mapL xs).length f) := by
    show _ = _
    rw [count_cut]
    exact count_runs (cut_bounds _ f t).2 16385 _ (cut_bounds _ f t).1 (by have := (cut_bounds (mapL xs).length f t).2; have := mapL_len xs; omega)
  have hV0 : View w 0 w.heap.size .u8 a xs := h1.here
  have hN := bitsOf_calls w hl hV0
  have HB := mapL_byt hB
  have hL := mapL_len xs
  obtain ⟨hAE, hE8⟩ := cut_bounds (mapL xs).length f t
  refine (callsIn_wide (n := 5)).1 ?_
  refine (CallsIn.mono (R := fun e w' => e = .returned (.int .i64 (countD xs f t)) ∧ Below w.heap.size w w') ?_ fun e w' h => ⟨h.1, Chg.ofBelow h.2 0 0⟩)
  generalize mapL xs = ys at *
  generalize countD xs f t = D0 at *
  have hW := fun ao cap => bwithin_calls w ao ys.length cap f t hL
  obtain ⟨A, HA⟩ : ∃ A, Hid (cutA ys.length f = A) := ⟨_, rfl⟩
  obtain ⟨E, HE⟩ : ∃ E, Hid (cutE ys.length f t = E) := ⟨_, rfl⟩
  rw [HA.out, HE.out] at HD hW hAE
  rw [HE.out] at hE8
  have hlen := runsL_len ys E 16385 A
  clear h1 hB hl hV0 HA HE
  refine callsIn_of_wp_marks Try.func7 rfl trivial ?_ rfl
  simp only [Try.ntmps7, List.size_toArray, List.length_cons, List.length_nil, Nat.reduceAdd, Nat.reduceSub, Array.replicate_succ, Array.replicate_zero, List.push_toArray, List.append_toArray, List.nil_append, List.cons_append]
  gi_wp2_with (refine ⟨trivial, ?_⟩; gi_at_call 15; refine (callsIn_wide.2 hN).mono ?_; rintro e w1 ⟨⟨v, rfl, hv⟩, rfl⟩)
  obtain ⟨ao, cap, rfl, _, _, _⟩ := id hv
  have hWc := hW ao cap
  clear hW
  gi_wp2_with (refine ⟨trivial, ?_⟩; gi_at_call 17; refine (callsIn_wide.2 hWc).mono ?_; rintro e w2 ⟨rfl, rfl⟩)
  clear hWc hN
  have hR := freeRuns_calls (w2.alloc (.cells #[.int .i64 ((E : Int) - (A : Int))] 2)) ao ys.length cap A E
  obtain ⟨t0, t1, t2, t3, t4⟩ := three_facts (w2.alloc (.cells #[.int .i64 ((E : Int) - (A : Int))] 2)) (.slice ao ys.length cap) A E
  have hsz : (w2.alloc (.cells #[.int .i64 ((E : Int) - (A : Int))] 2)).heap.size = w2.heap.size + 1 := by simp
  have hbx : Boxed (three (w2.alloc (.cells #[.int .i64 ((E : Int) - (A : Int))] 2)) (.slice ao ys.length cap) A E) w2.heap.size 2 (.int .i64 ((E : Int) - (A : Int))) := (t4.block w2.heap.size (by omega)).trans (heap_new w2 _)
  have hB0 : Below w2.heap.size w2 (three (w2.alloc (.cells #[.int .i64 ((E : Int) - (A : Int))] 2)) (.slice ao ys.length cap) A E) := ((Below.refl _ w2).alloc (Nat.le_refl _) _).trans (t4.mono (by omega))
  rw [hsz] at hR t0 t1 t2 t3
  have hv3 : View (three (w2.alloc (.cells #[.int .i64 ((E : Int) - (A : Int))] 2)) (.slice ao ys.length cap) A E) 0 w2.heap.size .u8 (.slice ao ys.length cap) ys := hv.kept (K := fun k => k < w2.heap.size) (fun k hk => hB0.block k hk) (fun i hi => hi)
  generalize three (w2.alloc (.cells #[.int .i64 ((E : Int) - (A : Int))] 2)) (.slice ao ys.length cap) A E = wL at *
  clear t4 hv
  gi_wp2_with (refine ⟨trivial, ?_⟩; gi_at_call 16; refine (callsIn_wide.2 hR).mono ?_; rintro e w1 ⟨rfl, rfl⟩)
  clear hR
  have hS := runs_stops 4 (by omega) (w2.heap.size + 1) (w2.heap.size + 1 + 1) (w2.heap.size + 1 + 1 + 1) w2.heap.size ao cap ys A E w1 HB hL (by omega) hv3 t1 t2 t3
  rw [cutE_again hAE hE8, cutA_again (Nat.le_trans hAE hE8)] at hS
  refine wpIn_rangeFunc_ownH rfl (by omega) (gf := 25) (lb := #[.pointer (some ⟨w2.heap.size + 1, 0, none⟩), .pointer (some ⟨w2.heap.size + 1 + 1, 0, none⟩), .pointer (some ⟨w2.heap.size + 1 + 1 + 1, 0, none⟩)]) rfl trivial (enters_of Try.func25 (by kernel_rfl) rfl)
    hS KeepK.trans (KeepK.put (by intro k hk; omega)) (Below.refl _ _) (fun _ => rfl)
    (fun pre W => (Boxed W w2.heap.size 2 (.int .i64 ((E : Int) - (A : Int) - (lens pre : Int))) ∧ w2.heap.size + 4 ≤ W.heap.size) ∧ Below w2.heap.size w2 W)
    (fun c pre W => False)
    ?hI ?hIx ⟨⟨by simpa [lens] using hbx, by omega⟩, hB0⟩
    (fun x a' W => ∃ Bx, w2.heap.size + 4 ≤ Bx ∧ W.heap[Bx]? = some (.cells #[.int .i64 (x.1.1 : Int), .int .i64 (x.1.2 : Int)] 29 (0, 0)) ∧
      a' = { tmps := #[a, .int .i64 A, .int .i64 E, undef, undef, undef, .int .i64 0, .slice ao ys.length cap, .pointer (some ⟨w2.heap.size, 0, none⟩), .pointer (some ⟨Bx, 0, none⟩), a, .slice ao ys.length cap, .tuple #[.int .i64 A, .int .i64 E], .slice ao ys.length cap, .int .i64 f, .int .i64 t, .tuple #[.int .i64 A, .int .i64 E], .int .i64 A, .int .i64 E, .int .i64 E, .int .i64 A, .int .i64 ((E : Int) - (A : Int)), .slice ao ys.length cap, .int .i64 A, .int .i64 E,
        .func (.func 25) #[] #[.pointer (some ⟨w2.heap.size + 1, 0, none⟩), .pointer (some ⟨w2.heap.size + 1 + 1, 0, none⟩), .pointer (some ⟨w2.heap.size + 1 + 1 + 1, 0, none⟩)], .agg #[.int .i64 (x.1.1 : Int), .int .i64 (x.1.2 : Int)], undef, undef, undef, undef, undef], defers := [] })
    ?hAx ?assign ?body ?done ?stop
  case hI => exact OwnFrom.and (Own.from (fun s A B row hs hg hr => ⟨cells_keep hs.1 hg hr, Nat.le_trans hs.2 hg.size⟩) _) (ownFrom_below (Nat.le_refl _) (by omega))
  case hIx => exact fun c s A B row hs hg hr => hs
  case hAx => exact fun x a' => Own.from (fun s A B row hs hg hr => by obtain ⟨Bx, h1, h2, h3⟩ := hs; exact ⟨Bx, h1, cells_keep h2 hg hr, h3⟩) _
  case assign =>
    rintro l pre x W K ⟨⟨hb, hsW⟩, hB⟩ hK
    simp only [encR]
    gi_wp2
    exact hK _ _ ((KeepsOthers.alloc _ _).from _) (fun k hk => Below.heap_alloc _ _ _ (by omega)) ⟨⟨Boxed.alloc hb _, by simp; omega⟩, hB.alloc (by omega) _⟩ ⟨W.heap.size, hsW, heap_new _ _, rfl⟩
  case body =>
    rintro l pre x a' W hl ⟨r, hr⟩ ⟨⟨hb, hsW⟩, hB⟩ ⟨Bx, hBx, hx, rfl⟩ hpl
    have c1 : W.cell? ⟨Bx, 1, none⟩ = some (.int .i64 (x.1.2 : Int)) := by simp only [World.cell?, hx]; rfl
    have c2 := Boxed.cell hb
    have c3 := Boxed.frozen hb
    have l1 := lens_le pre
    have l2 : lens pre ≤ 268451840 := by omega
    have l3 : x.1.2 ≤ 16384 := x.2.2
    have l4 : E ≤ 16384 := by omega
    have Hl : Hid (lens (pre ++ [x]) = lens pre + x.1.2) := lens_snoc pre x
    generalize lens pre = S at *
    generalize hX : x.1.2 = X at *
    clear hX l1
    gi_wp2
    refine ⟨(KeepsOthers.setCell _ _ _).from _, (fun k hk => Below.heap_setCell _ _ _ _ (by simp only; omega)), ⟨?_, by simpa [World.setCell] using hsW⟩, hB.setCell (p := ⟨w2.heap.size, 0, none⟩) (Nat.le_refl _) _⟩
    rw [Hl.out, show (E : Int) - (A : Int) - ((S + X : Nat) : Int) = (E : Int) - (A : Int) - (S : Int) - (X : Int) by omega]
    exact Boxed.set _ hb
  case done =>
    rintro D ys' W hD rfl ⟨⟨hb, hsW⟩, hB⟩ hK
    have c2 := Boxed.cell hb
    have Hd : Hid ((E : Int) - (A : Int) - (lens (runsL ys E 16385 A) : Int) = (D0 : Int)) := by have := HD.out; show _ = _; omega
    rw [Hd.out] at c2
    gi_wp2
    refine ⟨by simp, .inl ⟨_, _, rfl, run_takeDeferred hK, ?_⟩⟩
    exact ⟨_, results_tmp rfl _ _ _, rfl, hB.trans (belowK_b (w := w2) (Nat.le_refl _) W D _ _ (by omega) hK rfl rfl)⟩
  case stop =>
    rintro D c pre W _ _ h _
    exact h.elim

end Go.Proofs.Ytgmpggloonkfnaa

/- BitFirst of the program. -/
import Derived.Test.YtgmpggloonkfnaaRunsMath
namespace Go.Proofs.Ytgmpggloonkfnaa
open Go.RowKit Go.Shelf
attribute [local go_sem] Oper.semAt_some

/-- The three variables that the runs hold on to. -/
abbrev three (w : World) (v : Value) (f t : Int) : World := ((w.alloc (.cells #[v] 39)).alloc (.cells #[.int .i64 f] 2)).alloc (.cells #[.int .i64 t] 2)

set_option maxHeartbeats 1000000 in
theorem freeRuns_calls (w : World) (ao : Option Addr) (n cap : Nat) (f t : Int) :
    Calls Try.prog 16 #[.slice ao n cap, .int .i64 f, .int .i64 t] w fun e w' =>
      e = .returned (.func (.func 25) #[] #[.pointer (some ⟨w.heap.size, 0, none⟩), .pointer (some ⟨w.heap.size + 1, 0, none⟩), .pointer (some ⟨w.heap.size + 1 + 1, 0, none⟩)]) ∧ w' = three w (.slice ao n cap) f t := by
  go_enter Try.func16, Try.ntmps16
  go_wp2
  go_ret
  exact ⟨rfl, rfl⟩

theorem three_facts (w : World) (v : Value) (f t : Int) : (three w v f t).heap.size = w.heap.size + 3 ∧ (three w v f t).cell? ⟨w.heap.size, 0, none⟩ = some v ∧ (three w v f t).cell? ⟨w.heap.size + 1, 0, none⟩ = some (.int .i64 f) ∧ (three w v f t).cell? ⟨w.heap.size + 1 + 1, 0, none⟩ = some (.int .i64 t) ∧ Below w.heap.size w (three w v f t) := by
  obtain ⟨h0, h1, h2, h3⟩ := alloc3 w (.cells #[v] 39) (.cells #[.int .i64 f] 2) (.cells #[.int .i64 t] 2)
  refine ⟨h0, ?_, ?_, ?_, (Chg.alloc (Chg.alloc (Chg.alloc (Chg.refl 0 0 w) _) _) _).below (Or.inl (Nat.le_refl _))⟩
  · exact Boxed.cell h1
  · exact Boxed.cell h2
  · exact Boxed.cell h3

set_option maxRecDepth 100000 in
set_option maxHeartbeats 2000000 in
theorem implBitFirst_calls (w : World) {lo hi : Nat} {a : Value} {xs : List Int} (f t : Int) (hB : Byt xs) (hl : xs.length ≤ 1048576) (h1 : View w lo hi .u8 a xs) :
    Calls Try.prog 6 #[a, .int .i64 f, .int .i64 t] w fun e w' => e = .returned (.int .i64 (firstD xs f t)) ∧ Chg 0 0 w w' := by
  have HD : Hid (firstD xs f t = match runsL (mapL xs) (cutE (mapL xs).length f t) 16385 (cutA (mapL xs).length f) with | [] => -1 | x :: _ => (x.1.1 : Int)) := by
    show _ = _
    rw [first_cut]
    exact first_runs 16384 (cut_bounds _ f t).2 (cut_bounds _ f t).1
  have hV0 : View w 0 w.heap.size .u8 a xs := h1.here
  have hN := bitsOf_calls (w.alloc (.cells #[.int .i64 0] 2)) hl (hV0.chg (Chg.alloc (Chg.refl 0 0 w) _) (by omega))
  have HB := mapL_byt hB
  have hL := mapL_len xs
  refine (callsIn_wide (n := 5)).1 ?_
  refine (CallsIn.mono (R := fun e w' => e = .returned (.int .i64 (firstD xs f t)) ∧ Below w.heap.size w w') ?_ fun e w' h => ⟨h.1, Chg.ofBelow h.2 0 0⟩)
  generalize mapL xs = ys at *
  generalize firstD xs f t = D0 at *
  clear h1 hB hl hV0
  refine callsIn_of_wp_marks Try.func6 rfl trivial ?_ rfl
  simp only [Try.ntmps6, List.size_toArray, List.length_cons, List.length_nil, Nat.reduceAdd, Nat.reduceSub, Array.replicate_succ, Array.replicate_zero, List.push_toArray, List.append_toArray, List.nil_append, List.cons_append]
  gi_wp2_with (refine ⟨trivial, ?_⟩; gi_at_call 15; refine (callsIn_wide.2 hN).mono ?_; rintro e w1 ⟨⟨v, rfl, hv⟩, rfl⟩)
  obtain ⟨ao, cap, rfl, _, _, _⟩ := id hv
  have hR := freeRuns_calls (w.alloc (.cells #[.int .i64 0] 2)) ao ys.length cap f t
  obtain ⟨t0, t1, t2, t3, t4⟩ := three_facts (w.alloc (.cells #[.int .i64 0] 2)) (.slice ao ys.length cap) f t
  have hsz : (w.alloc (.cells #[.int .i64 0] 2)).heap.size = w.heap.size + 1 := by simp
  have hbx : Boxed (three (w.alloc (.cells #[.int .i64 0] 2)) (.slice ao ys.length cap) f t) w.heap.size 2 (.int .i64 0) := (t4.block w.heap.size (by omega)).trans (heap_new w _)
  have hB0 : Below w.heap.size w (three (w.alloc (.cells #[.int .i64 0] 2)) (.slice ao ys.length cap) f t) := ((Below.refl _ w).alloc (Nat.le_refl _) _).trans (t4.mono (by omega))
  rw [hsz] at hR t0 t1 t2 t3
  have hv3 : View (three (w.alloc (.cells #[.int .i64 0] 2)) (.slice ao ys.length cap) f t) 0 w.heap.size .u8 (.slice ao ys.length cap) ys := hv.kept (K := fun k => k < w.heap.size) (fun k hk => t4.block k (by omega)) (fun i hi => hi)
  generalize three (w.alloc (.cells #[.int .i64 0] 2)) (.slice ao ys.length cap) f t = wL at *
  clear t4 hN hv
  gi_wp2_with (refine ⟨trivial, ?_⟩; gi_at_call 16; refine (callsIn_wide.2 hR).mono ?_; rintro e w1 ⟨rfl, rfl⟩)
  clear hR
  refine wpIn_rangeFunc_ownH rfl (by omega) (gf := 25) (lb := #[.pointer (some ⟨w.heap.size + 1, 0, none⟩), .pointer (some ⟨w.heap.size + 1 + 1, 0, none⟩), .pointer (some ⟨w.heap.size + 1 + 1 + 1, 0, none⟩)]) rfl trivial (enters_of Try.func25 (by kernel_rfl) rfl)
    (runs_stops 4 (by omega) (w.heap.size + 1) (w.heap.size + 1 + 1) (w.heap.size + 1 + 1 + 1) w.heap.size ao cap ys f t w1 HB hL (by omega) hv3 t1 t2 t3) KeepK.trans (KeepK.put (by intro k hk; omega)) (Below.refl _ _) (fun _ => rfl)
    (fun pre W => (pre = [] ∧ Boxed W w.heap.size 2 (.int .i64 0) ∧ w.heap.size + 4 ≤ W.heap.size) ∧ Below w.heap.size w W)
    (fun c pre W => (c = .ret ∧ ∃ x : Rn, pre = [x] ∧ Boxed W w.heap.size 2 (.int .i64 (x.1.1 : Int))) ∧ Below w.heap.size w W)
    ?hI ?hIx ⟨⟨rfl, hbx, by omega⟩, hB0⟩
    (fun x a' W => ∃ Bx, w.heap.size + 4 ≤ Bx ∧ W.heap[Bx]? = some (.cells #[.int .i64 (x.1.1 : Int), .int .i64 (x.1.2 : Int)] 29 (0, 0)) ∧
      a' = { tmps := #[a, .int .i64 f, .int .i64 t, undef, undef, undef, .pointer (some ⟨w.heap.size, 0, none⟩), .pointer (some ⟨Bx, 0, none⟩), a, .slice ao ys.length cap, .int .i64 f, .int .i64 t, .func (.func 25) #[] #[.pointer (some ⟨w.heap.size + 1, 0, none⟩), .pointer (some ⟨w.heap.size + 1 + 1, 0, none⟩), .pointer (some ⟨w.heap.size + 1 + 1 + 1, 0, none⟩)], .agg #[.int .i64 (x.1.1 : Int), .int .i64 (x.1.2 : Int)], undef, undef], defers := [] })
    ?hAx ?assign ?body ?done ?stop
  case hI => exact OwnFrom.and (Own.from (fun s A B row hs hg hr => ⟨hs.1, cells_keep hs.2.1 hg hr, Nat.le_trans hs.2.2 hg.size⟩) _) (ownFrom_below (Nat.le_refl _) (by omega))
  case hIx => exact fun c => OwnFrom.and (Own.from (fun s A B row hs hg hr => by obtain ⟨h1, x, h2, h3⟩ := hs; exact ⟨h1, x, h2, cells_keep h3 hg hr⟩) _) (ownFrom_below (Nat.le_refl _) (by omega))
  case hAx => exact fun x a' => Own.from (fun s A B row hs hg hr => by obtain ⟨Bx, h1, h2, h3⟩ := hs; exact ⟨Bx, h1, cells_keep h2 hg hr, h3⟩) _
  case assign =>
    rintro l pre x W K ⟨⟨rfl, hb, hsW⟩, hB⟩ hK
    simp only [encR]
    gi_wp2
    exact hK _ _ ((KeepsOthers.alloc _ _).from _) (fun k hk => Below.heap_alloc _ _ _ (by omega)) ⟨⟨trivial, Boxed.alloc hb _, by simp; omega⟩, hB.alloc (by omega) _⟩ ⟨W.heap.size, hsW, heap_new _ _, rfl⟩
  case body =>
    rintro l pre x a' W hl ⟨r, hr⟩ ⟨⟨rfl, hb, hsW⟩, hB⟩ ⟨Bx, hBx, hx, rfl⟩ _
    have c1 : W.cell? ⟨Bx, 0, none⟩ = some (.int .i64 (x.1.1 : Int)) := by simp only [World.cell?, hx]; rfl
    have c2 := Boxed.cell hb
    have c3 := Boxed.frozen hb
    gi_wp2
    exact ⟨(KeepsOthers.setCell _ _ _).from _, ⟨rfl, x, rfl, Boxed.set _ hb⟩, hB.setCell (p := ⟨w.heap.size, 0, none⟩) (Nat.le_refl _) _⟩
  case done =>
    rintro D ys' W hD hxs ⟨⟨rfl, hb, hsW⟩, hB⟩ hK
    have c2 := Boxed.cell hb
    have c3 := Boxed.frozen hb
    have Hd : Hid (D0 = -1) := by rw [← hxs] at HD; exact HD.out
    gi_wp2
    have hK' := (KeepsOthers.setCell W ⟨w.heap.size, 0, none⟩ (.int .i64 (-1))).same D _ hK rfl
    refine ⟨by simp, .inl ⟨_, _, rfl, run_takeDeferred hK', ?_⟩⟩
    have hc5 := cell_kept (Boxed.set (.int .i64 (-1)) hb).cell (grownBy_putObj' _ D (.deferred none)) (fun r e => by cases e; exact ⟨_, hK', rfl⟩)
    refine ⟨.int .i64 (-1), ?_, by rw [Hd.out], (hB.setCell (p := ⟨w.heap.size, 0, none⟩) (Nat.le_refl _) _).trans (belowK_b (w := w) (Nat.le_refl _) _ D _ _ (by omega) hK' rfl rfl)⟩
    simp [results, Try.f6, go_sem, hc5]
  case stop =>
    rintro D c pre W hD hpre ⟨⟨rfl, x, rfl, hb⟩, hB⟩ hK
    obtain ⟨rest, hrest⟩ := hpre
    have Hd : Hid (D0 = (x.1.1 : Int)) := by rw [← hrest] at HD; exact HD.out
    gi_wp2
    refine ⟨by simp, .inl ⟨_, _, rfl, run_takeDeferred hK, ?_⟩⟩
    have hc5 := cell_kept hb.cell (grownBy_putObj' _ D (.deferred none)) (fun r e => by cases e; exact ⟨_, hK, rfl⟩)
    refine ⟨.int .i64 (x.1.1 : Int), ?_, by rw [Hd.out], hB.trans (belowK_b (w := w) (Nat.le_refl _) W D _ _ (by omega) hK rfl rfl)⟩
    simp [results, Try.f6, go_sem, hc5]

end Go.Proofs.Ytgmpggloonkfnaa

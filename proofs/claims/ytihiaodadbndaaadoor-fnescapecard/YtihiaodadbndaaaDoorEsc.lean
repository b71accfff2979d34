/- escapeBlock of the program. -/
import Derived.Test.YtihiaodadbndaaaDoorUnesc
namespace Go.Proofs.YtihiaodadbndaaaDoor
open Go.RowKit

theorem clear_four (w : World) (b cap : Nat) (c0 c1 c2 c3 : Value) (ty : TypeId) (k0 : w.cell? ⟨b, 0, none⟩ = some c0) (k1 : w.cell? ⟨b, 1, none⟩ = some c1) (k2 : w.cell? ⟨b, 2, none⟩ = some c2) (k3 : w.cell? ⟨b, 3, none⟩ = some c3)
    (f0 : w.frozen? ⟨b, 0, none⟩ = false) (f1 : w.frozen? ⟨b, 1, none⟩ = false) (f2 : w.frozen? ⟨b, 2, none⟩ = false) (f3 : w.frozen? ⟨b, 3, none⟩ = false) :
    (Builtin.clear_ #[22] ty #[.slice (some ⟨b, 0, none⟩) 4 cap]).run Tryd.prog w = .ok (.tuple #[]) ((((w.setCell ⟨b, 0, none⟩ (.int .u8 0)).setCell ⟨b, 1, none⟩ (.int .u8 0)).setCell ⟨b, 2, none⟩ (.int .u8 0)).setCell ⟨b, 3, none⟩ (.int .u8 0)) := by
  have hz : (Builtin.zeroCells #[Value.int .u8 0] 4).toList = [.int .u8 0, .int .u8 0, .int .u8 0, .int .u8 0] := by first | kernel_rfl | decide | simp [Builtin.zeroCells]
  have hst := run_storeCells_cells (P := Tryd.prog) b 0 [.int .u8 0, .int .u8 0, .int .u8 0, .int .u8 0] 0 w
    (fun j hj => by
      have : j = 0 ∨ j = 1 ∨ j = 2 ∨ j = 3 := by simp at hj; omega
      rcases this with rfl | rfl | rfl | rfl
      · simp [k0]
      · simp [k1]
      · simp [k2]
      · simp [k3])
    (fun j hj => by
      have : j = 0 ∨ j = 1 ∨ j = 2 ∨ j = 3 := by simp at hj; omega
      rcases this with rfl | rfl | rfl | rfl
      · simpa using f0
      · simpa using f1
      · simpa using f2
      · simpa using f3)
    (by simp [Value.oneCell'])
  simp only [Nat.add_zero] at hst
  simp [Builtin.clear_, go_sem]
  rw [hz, hst]
  rfl

/-- What stands in the log for some data. -/
def escL (xs : List Int) : List Int := if xs.take 4 = mg then [0, 0, 0, 0] ++ xs.drop 4 else xs

theorem escL_length {xs : List Int} (h : xs.length = 64) : (escL xs).length = 64 := by
  unfold escL
  split
  · simp [h]
  · exact h

set_option maxRecDepth 20000 in
set_option maxHeartbeats 8000000 in
theorem escapeBlock_calls (w : World) (xs : List Int) {tL tM tK : TypeId} {vL vM vK : Value} (hx : xs.length = 64) (hB : Byt xs) (hG : Glob w tL tM tK vL vM vK) :
    Calls Tryd.prog 14 #[.agg (xs.map (Value.int .u8)).toArray] w fun e w' => e = .returned (.tuple #[.agg ((escL xs).map (Value.int .u8)).toArray, .bool (decide (xs.take 4 = mg))]) ∧ Chg 0 0 w w' := by
  obtain ⟨cs, hcs⟩ : ∃ cs, cs = xs.map (Value.int .u8) := ⟨_, rfl⟩
  have L1 : cs.length = 64 := by rw [hcs]; simpa using hx
  have L2 : ∀ v ∈ cs, v.oneCell' = true := by rw [hcs]; exact ints_oneCell _ _
  have HL1 : Hid (cs.length = 64) := L1
  have HL2 : Hid (∀ v ∈ cs, v.oneCell' = true) := L2
  have Hcs : Hid (cs = xs.map (Value.int .u8)) := hcs
  have Hx : Hid (xs.length = 64) := hx
  have HB : Hid (Byt xs) := hB
  have hi44 : (Tryd.prog.info? 36).map (·.size) = some cs.length := by rw [L1]; kernel_rfl
  have u44 := Tryd.underlying36
  rw [← hcs]
  obtain ⟨z1, z2, z3⟩ := alloc2 w (.cells cs.toArray 36) (.cells Z64.toArray 36)
  have hA : Chg 0 0 w ((w.alloc (.cells cs.toArray 36)).alloc (.cells Z64.toArray 36)) := (Chg.alloc (Chg.refl 0 0 w) _).alloc _
  obtain ⟨h0, h1, h2, h3, h4, h5, h6, e7, hmg⟩ : ∃ h0 h1 h2 h3 h4 h5 h6 : Int, hd7 xs = #[.int .u8 h0, .int .u8 h1, .int .u8 h2, .int .u8 h3, .int .i64 h4, .int .i64 h5, .int .i64 h6] ∧ xs.take 4 = [h0, h1, h2, h3] := by
    refine ⟨_, _, _, _, _, _, _, rfl, ?_⟩
    match xs, hx with
    | a :: b :: c :: d :: r, _ => simp
  have Hmg : Hid (xs.take 4 = [h0, h1, h2, h3]) := hmg
  have He7 : Hid (hd7 xs = #[.int .u8 h0, .int .u8 h1, .int .u8 h2, .int .u8 h3, .int .i64 h4, .int .i64 h5, .int .i64 h6]) := e7
  have HGl : Hid (Glob w tL tM tK vL vM vK) := hG
  clear L1 L2 hcs hx hB hG e7 hmg
  go_enter Tryd.func14, Tryd.ntmps14
  go_upto_region 1 with fail
  simp only [Z64_eq]
  generalize (w.alloc (.cells cs.toArray 36)).alloc (.cells Z64.toArray 36) = wa at *
  have Hz2 : Hid (wa.heap[w.heap.size]? = some (.cells cs.toArray 36 (0, 0))) := z2
  have Hz3 : Hid (wa.heap[w.heap.size + 1]? = some (.cells Z64.toArray 36 (0, 0))) := z3
  have HA : Hid (Chg 0 0 w wa) := hA
  have HGa : Hid (Glob wa tL tM tK vL vM vK) := HGl.out.chg hA (by omega)
  clear z2 z3 hA HGl
  go_cut [8] (fun s8 wx => s8 = .bool (!decide (xs.take 4 = mg)) ∧ Chg 0 0 wa wx)
  case first =>
    have HS : Hid ((fun w' : World => w'.heap[w.heap.size]? = some (.cells cs.toArray 36 (0, 0)) ∧ Glob w' tL tM tK vL vM vK) wa.drew) := ⟨Hz2.out, HGa.out.chg (Chg.drew (Chg.refl 0 0 wa)) (by omega)⟩
    refine held_region (fun w' : World => w'.heap[w.heap.size]? = some (.cells cs.toArray 36 (0, 0)) ∧ Glob w' tL tM tK vL vM vK) (by kernel_rfl) ?_
    refine held_take 0 (.agg cs.toArray) rfl (by kernel_rfl) (by kernel_rfl) (by kernel_rfl) (fun _ _ _ h => h) (yieldsIf_load_mid (by kernel_rfl) 36 (.tmp 1) rfl w.heap.size 0 rfl cs _ (fun w' hw' => row_rng hw'.1) Tryd.underlying36 rfl hi44) HS.out ?_
    go_simp
    refine held_take 3 (.agg #[.int .u8 106, .int .u8 108, .int .u8 111, .int .u8 103]) rfl (by kernel_rfl) (by kernel_rfl) (by kernel_rfl) (fun _ _ _ h => h) (.inl ⟨by kernel_rfl, fun w' hw' => by have m0 := hw'.2.m0; have m1 := hw'.2.m1; have m2 := hw'.2.m2; have m3 := hw'.2.m3; go_simp⟩) HS.out ?_
    go_simp
    have hN := headerOf_calls wa.drew xs Hx.out HB.out
    rw [← Hcs.out, He7.out] at hN
    refine held_one 1 rfl rfl (by kernel_rfl) ?_
    refine wp_enter 21 #[.agg cs.toArray] (by first | kernel_rfl | go_simp) hN ?_
    rintro e w1 ⟨rfl, hc1⟩
    have HS1 : Hid ((fun w' : World => w'.heap[w.heap.size]? = some (.cells cs.toArray 36 (0, 0)) ∧ Glob w' tL tM tK vL vM vK) w1) := ⟨(hc1.block w.heap.size (Array.getElem?_eq_some_iff.1 HS.out.1).1 (by omega)).trans HS.out.1, HS.out.2.chg hc1 (by omega)⟩
    have HC1 : Hid (Chg 0 0 wa w1) := (Chg.drew (Chg.refl 0 0 wa)).trans hc1
    refine ⟨_, rfl, HS1.out, ?_⟩
    clear hc1 hN
    go_simp
    refine held_one 2 rfl rfl (by kernel_rfl) ?_
    refine wp_enter 22 #[.agg #[.int .u8 h0, .int .u8 h1, .int .u8 h2, .int .u8 h3, .int .i64 h4, .int .i64 h5, .int .i64 h6]] (by first | kernel_rfl | go_simp) (magic_calls w1 h0 h1 h2 h3 h4 h5 h6) ?_
    rintro e w2 ⟨rfl, hc2⟩
    have HS2 : Hid ((fun w' : World => w'.heap[w.heap.size]? = some (.cells cs.toArray 36 (0, 0)) ∧ Glob w' tL tM tK vL vM vK) w2) := ⟨(hc2.block w.heap.size (Array.getElem?_eq_some_iff.1 HS1.out.1).1 (by omega)).trans HS1.out.1, HS1.out.2.chg hc2 (by omega)⟩
    have HC2 : Hid (Chg 0 0 wa w2) := HC1.out.trans hc2
    refine ⟨_, rfl, HS2.out, ?_⟩
    clear hc2
    go_simp
    have heq := equal_bytes w2 37 4 Tryd.underlying37 (xs := [h0, h1, h2, h3]) (ys := mg) (by rw [← Hmg.out]; exact HB.out.take 4) byt_mg rfl rfl
    obtain ⟨bm, hbm⟩ : ∃ bm, bm = decide (xs.take 4 = mg) := ⟨_, rfl⟩
    have hb4 : decide ([h0, h1, h2, h3] = mg) = bm := by rw [hbm, Hmg.out]
    rw [hb4] at heq
    simp only [mg, List.map_cons, List.map_nil] at heq
    have Hbm : Hid (bm = decide (xs.take 4 = mg)) := hbm
    clear hb4 hbm
    refine held_one 4 rfl rfl (by kernel_rfl) ?_
    refine wp_given (v := .bool (!bm)) (w' := w2) (by simp only [execOp, Act.eval]; go_simp) ⟨HS2.out, ?_⟩
    go_simp
    refine held_done (by kernel_rfl) (NoPanic.normal ?_)
    go_wp2
    go_meet
    exact ⟨by rw [Hbm.out], HC2.out⟩
  case rest =>
    obtain ⟨rfl, hc3⟩ := hcut
    generalize wc = w3 at *
    have s3 := hc3.size
    have HD : Hid (w3.heap[w.heap.size]? = some (.cells cs.toArray 36 (0, 0))) := (hc3.block w.heap.size (Array.getElem?_eq_some_iff.1 Hz2.out).1 (by omega)).trans Hz2.out
    have HQ : Hid (w3.heap[w.heap.size + 1]? = some (.cells Z64.toArray 36 (0, 0))) := (hc3.block (w.heap.size + 1) (Array.getElem?_eq_some_iff.1 Hz3.out).1 (by omega)).trans Hz3.out
    have HC3 : Hid (Chg 0 0 w w3) := HA.out.trans hc3
    clear hc3 HGa Hz2 Hz3 HA
    by_cases hm : xs.take 4 = mg
    · have HEs : Hid (escL xs = [0, 0, 0, 0] ++ xs.drop 4) := by show _ = _; unfold escL; rw [if_pos hm]
      have Hm : Hid (xs.take 4 = mg) := hm
      rw [decide_eq_true hm]
      obtain ⟨c0, c1, c2, c3, cr, ecs⟩ : ∃ c0 c1 c2 c3 cr, cs = c0 :: c1 :: c2 :: c3 :: cr := by
        have := HL1.out
        match cs, this with
        | a :: b :: c :: d :: r, _ => exact ⟨a, b, c, d, r, rfl⟩
      have Hecs : Hid (cs = c0 :: c1 :: c2 :: c3 :: cr) := ecs
      have hd3 := HD.out
      rw [ecs] at hd3
      obtain ⟨k0, k1, k2, k3, f0, f1, f2, f3⟩ : w3.cell? ⟨w.heap.size, 0, none⟩ = some c0 ∧ w3.cell? ⟨w.heap.size, 1, none⟩ = some c1 ∧ w3.cell? ⟨w.heap.size, 2, none⟩ = some c2 ∧ w3.cell? ⟨w.heap.size, 3, none⟩ = some c3 ∧ w3.frozen? ⟨w.heap.size, 0, none⟩ = false ∧ w3.frozen? ⟨w.heap.size, 1, none⟩ = false ∧ w3.frozen? ⟨w.heap.size, 2, none⟩ = false ∧ w3.frozen? ⟨w.heap.size, 3, none⟩ = false := by
        simp [World.cell?, World.frozen?, hd3]
      have hcl := fun ty => clear_four w3 w.heap.size 64 c0 c1 c2 c3 ty k0 k1 k2 k3 f0 f1 f2 f3
      have Hd3 : Hid (w3.heap[w.heap.size]? = some (.cells (List.toArray (c0 :: c1 :: c2 :: c3 :: cr)) 36 (0, 0))) := hd3
      clear ecs hd3 hm
      go_upto_region 4 with fail
      have C4 : Chg w.heap.size (w.heap.size + 1) w3 ((((w3.setCell ⟨w.heap.size, 0, none⟩ (.int .u8 0)).setCell ⟨w.heap.size, 1, none⟩ (.int .u8 0)).setCell ⟨w.heap.size, 2, none⟩ (.int .u8 0)).setCell ⟨w.heap.size, 3, none⟩ (.int .u8 0)) := (((Chg.setCell (p := ⟨w.heap.size, 0, none⟩) (Chg.refl _ _ _) (Or.inl ⟨Nat.le_refl _, Nat.lt_succ_self _⟩) _).setCell (p := ⟨w.heap.size, 1, none⟩) (Or.inl ⟨Nat.le_refl _, Nat.lt_succ_self _⟩) _).setCell (p := ⟨w.heap.size, 2, none⟩) (Or.inl ⟨Nat.le_refl _, Nat.lt_succ_self _⟩) _).setCell (p := ⟨w.heap.size, 3, none⟩) (Or.inl ⟨Nat.le_refl _, Nat.lt_succ_self _⟩) _
      have D4 : ((((w3.setCell ⟨w.heap.size, 0, none⟩ (.int .u8 0)).setCell ⟨w.heap.size, 1, none⟩ (.int .u8 0)).setCell ⟨w.heap.size, 2, none⟩ (.int .u8 0)).setCell ⟨w.heap.size, 3, none⟩ (.int .u8 0)).heap[w.heap.size]? = some (.cells (List.toArray (.int .u8 0 :: .int .u8 0 :: .int .u8 0 :: .int .u8 0 :: cr)) 36 (0, 0)) := by
        have e0 := heap_setCell_same w3 w.heap.size 0 _ _ (.int .u8 0) Hd3.out
        have e1 := heap_setCell_same _ w.heap.size 1 _ _ (.int .u8 0) e0
        have e2 := heap_setCell_same _ w.heap.size 2 _ _ (.int .u8 0) e1
        have e3 := heap_setCell_same _ w.heap.size 3 _ _ (.int .u8 0) e2
        simpa using e3
      generalize ((((w3.setCell ⟨w.heap.size, 0, none⟩ (.int .u8 0)).setCell ⟨w.heap.size, 1, none⟩ (.int .u8 0)).setCell ⟨w.heap.size, 2, none⟩ (.int .u8 0)).setCell ⟨w.heap.size, 3, none⟩ (.int .u8 0)) = w4 at *
      obtain ⟨ds, hds⟩ : ∃ ds, ds = Value.int .u8 0 :: .int .u8 0 :: .int .u8 0 :: .int .u8 0 :: cr := ⟨_, rfl⟩
      have hdm : ds = (escL xs).map (Value.int .u8) := by
        have h1 := Hcs.out
        have h2 := Hx.out
        rw [Hecs.out] at h1
        rw [hds, HEs.out]
        match xs, h2, h1 with
        | a :: b :: c :: d :: r, _, h1 =>
          simp only [List.map_cons, List.cons.injEq] at h1
          obtain ⟨_, _, _, _, rfl⟩ := h1
          simp
      have Hdm : Hid (ds = (escL xs).map (Value.int .u8)) := hdm
      have HRl2 : Hid (ds.length = 64) := by
        have h1 := HL1.out
        rw [Hecs.out] at h1
        show ds.length = 64
        rw [hds]; simpa using h1
      have HRo2 : Hid (∀ v ∈ ds, v.oneCell' = true) := by
        show ∀ v ∈ ds, v.oneCell' = true
        rw [hdm]; exact ints_oneCell _ _
      have hids : (Tryd.prog.info? 36).map (·.size) = some ds.length := by rw [HRl2.out]; kernel_rfl
      rw [← hds] at D4
      have HR4 : Hid (w4.rangeAt w.heap.size 0 ds) := row_rng D4
      have HQ4 : Hid (w4.heap[w.heap.size + 1]? = some (.cells Z64.toArray 36 (0, 0))) := (C4.block (w.heap.size + 1) (Array.getElem?_eq_some_iff.1 HQ.out).1 (by omega)).trans HQ.out
      have HCw4 : Hid (Chg 0 0 w w4) := HC3.out.step C4 (by omega)
      clear C4 D4 hds hdm k0 k1 k2 k3 f0 f1 f2 f3 hcl Hd3 HD HQ
      go_wp2_with (first
        | (refine wpList_load_mid rfl 36 (.tmp 1) rfl w.heap.size 0 rfl ds _ HR4.out u44 rfl hids ?_)
        | (refine wpList_store_row rfl 36 (.tmp 2) (.tmp 11) rfl rfl (w.heap.size + 1) rfl ds Z64 36 rfl HQ4.out (by rw [Z64_length]; exact HRl2.out) hids HRo2.out ?_; intro w9 hb9 hc9))
      have hl1 : (loadVar 36 ⟨w.heap.size + 1, 0, none⟩).run Tryd.prog w9 = .ok (.agg ds.toArray) w9 := run_loadVar_mid _ _ _ _ ds _ (row_rng hb9) Tryd.underlying36 rfl hids
      refine bodyPost_ret (v := .tuple #[.agg ds.toArray, .bool true]) (results_be Tryd.results14 rfl rfl hl1) rfl ⟨?_, HCw4.out.step hc9 (by omega)⟩
      rw [Hdm.out, decide_eq_true Hm.out]
    · have HEs : Hid (escL xs = xs) := by show _ = _; unfold escL; rw [if_neg hm]
      have Hm : Hid (xs.take 4 ≠ mg) := hm
      rw [decide_eq_false hm]
      have HR : Hid (w3.rangeAt w.heap.size 0 cs) := row_rng HD.out
      clear hm
      go_wp2_with (first
        | (refine wpList_load_mid rfl 36 (.tmp 1) rfl w.heap.size 0 rfl cs _ HR.out u44 rfl hi44 ?_)
        | (refine wpList_store_row rfl 36 (.tmp 2) (.tmp 9) rfl rfl (w.heap.size + 1) rfl cs Z64 36 rfl HQ.out (by rw [Z64_length]; exact HL1.out) hi44 HL2.out ?_; intro w9 hb9 hc9))
      have hl1 : (loadVar 36 ⟨w.heap.size + 1, 0, none⟩).run Tryd.prog w9 = .ok (.agg cs.toArray) w9 := run_loadVar_mid _ _ _ _ cs _ (row_rng hb9) Tryd.underlying36 rfl hi44
      refine bodyPost_ret (v := .tuple #[.agg cs.toArray, .bool false]) (results_be Tryd.results14 rfl rfl hl1) rfl ⟨?_, HC3.out.step hc9 (by omega)⟩
      rw [HEs.out, Hcs.out, decide_eq_false Hm.out]

end Go.Proofs.YtihiaodadbndaaaDoor
